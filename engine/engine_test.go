package engine_test

import (
	"fmt"
	"math"
	"math/rand"
	"slices"
	"strings"
	"testing"

	"alluvium/api"
	"alluvium/block"
	"alluvium/engine"
	"alluvium/frame"
	"alluvium/label"
	"alluvium/meta"
	"alluvium/simfs"
	"alluvium/truth"
	"alluvium/wal"
)

func labels(l ...string) []api.Label {
	var out []api.Label
	for i := 0; i < len(l); i += 2 {
		out = append(out, api.Label{Name: l[i], Value: l[i+1]})
	}
	return out
}

func add(t int64, v uint64, l ...string) api.Op { return api.Op{Labels: labels(l...), T: t, V: v} }

func text(s truth.State) string {
	b := fmt.Sprint(s.Floor)
	for _, x := range s.Series {
		b += fmt.Sprintf(" %s%v%d", label.Show(x.Labels), x.Samples, x.Last)
	}
	return b
}

// files tells all files, and their bytes.
func files(f *simfs.Fs) string {
	b := ""
	for _, n := range f.List() {
		s, _ := f.Read(n)
		b += fmt.Sprintf("%s=%q ", n, s)
	}
	return b
}

func open(t *testing.T, f *simfs.Fs, gen int) *engine.Store {
	t.Helper()
	s, err := engine.Open(f, gen)
	if err != api.OK || s == nil {
		t.Fatalf("open: %v", err)
	}
	return s
}

func do(t *testing.T, s *engine.Store, l ...api.Op) {
	t.Helper()
	for _, o := range l {
		if a := s.Do(o); a.Err != api.OK {
			t.Fatalf("%v: %v", o, a.Err)
		}
	}
}

// copied is another machine with the same files, all synced.
func copied(f *simfs.Fs) *simfs.Fs {
	g := simfs.New(1 << 30)
	for _, n := range f.List() {
		b, _ := f.Read(n)
		put(g, n, b)
	}
	return g
}

func put(f *simfs.Fs, name, b string) {
	f.Create(name)
	f.Cut(name, 0)
	f.Append(name, b)
	f.Sync(name)
	f.SyncDir()
}

var (
	sync    = api.Op{Kind: 4}
	cut     = api.Op{Kind: 5}
	compact = api.Op{Kind: 6}
)

func TestExample(t *testing.T) {
	f := simfs.New(1000)
	s := open(t, f, 3)
	do(t, s, add(5, 1, "a", "x"), sync)
	f.Crash(nil)
	if s := open(t, f, 3); text(s.State()) != `0 {a="x"}[{5 1}]5` {
		t.Error(text(s.State()))
	}
}

func TestNewStore(t *testing.T) {
	for gen := 1; gen <= 3; gen++ {
		f := simfs.New(1000)
		put(f, "stray", "x")
		put(f, "wal-000007", "x")
		at := f.Steps()
		s := open(t, f, gen)
		head, _, _ := wal.Begin(gen)
		m := meta.Meta{Gen: gen, Next: 1}
		b, _ := meta.Put(m)
		if want := fmt.Sprintf("meta=%q wal-000000=%q ", b, head); files(f) != want || f.Steps()-at != 3+5+5 || !meta.Same(s.Meta(), m) || text(s.State()) != "0" {
			t.Errorf("%d: %d steps, %s", gen, f.Steps()-at, files(f))
		}
		f.Crash(nil)
		at = f.Steps()
		if s := open(t, f, 99); s.Meta().Gen != gen || f.Steps() != at {
			t.Errorf("%d: opened again", gen)
		}
	}
	for _, gen := range []int{0, 4, -1, math.MaxInt} {
		f := simfs.New(1000)
		put(f, "stray", "x")
		at := f.Steps()
		if s, err := engine.Open(f, gen); s != nil || err != api.ErrArg || f.Steps() != at || len(f.List()) != 1 {
			t.Errorf("%d: %v", gen, err)
		}
	}
	if s, err := engine.Open(nil, 3); s != nil || err != api.ErrArg {
		t.Errorf("nil: %v", err)
	}
	f := simfs.New(25)
	if s, err := engine.Open(f, 3); s != nil || err != api.ErrFull {
		t.Errorf("no room: %v", err)
	}
	f.Room(1000)
	open(t, f, 3)
	f = simfs.New(1000)
	f.Fuse(0)
	f.SyncDir()
	if s, err := engine.Open(f, 3); s != nil || err != api.ErrDead {
		t.Errorf("dead: %v", err)
	}
}

// full is a store that has all kinds of files, for a generation.
func full(t *testing.T, gen int) (*simfs.Fs, *engine.Store) {
	t.Helper()
	f := simfs.New(1 << 20)
	s := open(t, f, gen)
	do(t, s, add(1, 1, "a", "x"), add(2, 2, "a", "x"), add(3, 3, "b", "y"), cut, add(4, 4, "a", "x"), api.Op{Kind: 1, T: 2, To: 2}, cut, add(5, 5, "c", "z"), sync)
	return f, s
}

const fullText = `0 {a="x"}[{1 1} {4 4}]4 {b="y"}[{3 3}]3 {c="z"}[{5 5}]5`

func TestFiles(t *testing.T) {
	for gen := 1; gen <= 3; gen++ {
		f, s := full(t, gen)
		if text(s.State()) != fullText || !meta.Same(s.Meta(), meta.Meta{Gen: gen, Next: 5, Wal: 4, Blocks: []int{1, 3}}) || !slices.Equal(f.List(), []string{"block-000001", "block-000003", "meta", "wal-000004"}) {
			t.Errorf("%d: %s %v", gen, text(s.State()), s.Meta())
		}
		m, base, state, seg, err := engine.Load(f)
		if err != api.OK || !meta.Same(m, s.Meta()) || text(state) != fullText || text(base) != `0 {a="x"}[{1 1} {4 4}]4 {b="y"}[{3 3}]3` || len(seg.Recs) != 1 || seg.Torn || seg.Gen != gen {
			t.Errorf("%d: %v %v", gen, m, err)
		}
		for _, n := range f.List() {
			if b, _ := f.Read(n); b[4] != byte(gen) {
				t.Errorf("%s is of %d", n, b[4])
			}
		}
		s.State().Series[0].Samples[0].V = 666
		s.Meta().Blocks[0] = 666
		if text(s.State()) != fullText || s.Meta().Blocks[0] != 1 {
			t.Error("an answer shares")
		}
	}
}

func TestSteps(t *testing.T) {
	f := simfs.New(1 << 20)
	s := open(t, f, 3)
	for i, x := range []struct {
		o     api.Op
		steps int
		next  int
	}{
		{cut, 0, 1}, {compact, 0, 1}, {add(1, 1, "a", "x"), 1, 1}, {add(1, 1, "a", "x"), 0, 1}, {api.Op{Kind: 3, To: 9}, 0, 1}, {sync, 1, 1}, {cut, 17, 3}, {cut, 0, 3}, {compact, 0, 3}, {api.Op{Kind: 7, Gen: 3}, 0, 3}, {api.Op{Kind: 8}, 0, 3}, {add(2, 2, "a", "x"), 1, 3}, {cut, 17, 5}, {compact, 13, 6}, {compact, 0, 6},
		{api.Op{Kind: 7, Gen: 1}, 12, 7}, {compact, 12, 8}, {compact, 0, 8}, {add(3, 3, "a", "x"), 1, 8}, {api.Op{Kind: 7, Gen: 2}, 17, 10}, {api.Op{Kind: 2, T: 2}, 1, 10}, {api.Op{Kind: 2, T: 2}, 0, 10}, {api.Op{Kind: 1, T: 8, To: 9}, 0, 10}, {api.Op{Kind: 1, T: 3, To: 9}, 1, 10},
	} {
		at := f.Steps()
		if a := s.Do(x.o); a.Err != api.OK || f.Steps()-at != x.steps || s.Meta().Next != x.next {
			t.Errorf("%d: %v, %d steps, %v", i, a.Err, f.Steps()-at, s.Meta())
		}
	}
	if m := s.Meta(); m.Gen != 2 || m.Wal != 9 || !slices.Equal(m.Blocks, []int{7, 8}) || !slices.Equal(f.List(), []string{"block-000007", "block-000008", "meta", "wal-000009"}) {
		t.Errorf("%v %v", m, f.List())
	}
	if text(s.State()) != `2 {a="x"}[{2 2}]3` {
		t.Error(text(s.State()))
	}
}

func TestDoErrs(t *testing.T) {
	f := simfs.New(1 << 20)
	s := open(t, f, 2)
	do(t, s, add(5, 1, "a", "x"), api.Op{Kind: 2, T: 2})
	long := add(6, 1, "a", strings.Repeat("v", 25))
	was, at := files(f), f.Steps()
	for i, x := range []struct {
		o   api.Op
		err api.Errno
	}{
		{add(6, 1), api.ErrLabel}, {long, api.ErrLong}, {add(-1, 1, "a", "x"), api.ErrArg}, {add(1, 1, "a", "x"), api.ErrLate}, {add(4, 1, "a", "x"), api.ErrOrder}, {add(5, 2, "a", "x"), api.ErrDup}, {api.Op{Kind: 1, T: 1}, api.ErrArg}, {api.Op{Kind: 3, T: 1}, api.ErrArg}, {api.Op{Kind: 2, T: -1}, api.ErrArg},
		{api.Op{Kind: 7}, api.ErrArg}, {api.Op{Kind: 7, Gen: 4}, api.ErrArg}, {api.Op{Kind: 7, Gen: math.MinInt}, api.ErrArg}, {api.Op{Kind: 9}, api.ErrArg}, {api.Op{Kind: -1}, api.ErrArg}, {api.Op{Kind: math.MaxInt}, api.ErrArg},
	} {
		if a := s.Do(x.o); a.Err != x.err || a.N != 0 || len(a.Series) != 0 || files(f) != was || f.Steps() != at {
			t.Errorf("%d: %v", i, a)
		}
	}
	f.Fuse(0)
	if s.Do(sync).Err != api.ErrDead {
		t.Error("it does not die")
	}
	for kind := -1; kind < 10; kind++ {
		if a := s.Do(api.Op{Kind: kind, Gen: 2, Labels: labels("a", "x"), T: 9, To: 9}); a.Err != api.ErrDead || len(a.Series) != 0 {
			t.Errorf("%d of a dead machine: %v", kind, a)
		}
	}
}

func TestTurn(t *testing.T) {
	f := simfs.New(1 << 20)
	s := open(t, f, 3)
	do(t, s, add(5, 1, "a", strings.Repeat("v", 24)))
	for _, x := range []struct {
		gen  int
		err  api.Errno
		want int
	}{{1, api.ErrLong, 3}, {3, api.OK, 3}, {2, api.OK, 2}, {2, api.OK, 2}, {1, api.ErrLong, 2}, {3, api.OK, 3}} {
		if a := s.Do(api.Op{Kind: 7, Gen: x.gen}); a.Err != x.err || s.Meta().Gen != x.want {
			t.Errorf("%d: %v, %v", x.gen, a.Err, s.Meta())
		}
	}
	do(t, s, add(6, 1, "a", strings.Repeat("v", 48)))
	if a := s.Do(api.Op{Kind: 7, Gen: 2}); a.Err != api.ErrLong {
		t.Errorf("%v", a.Err)
	}
	f.Crash([]int{9})
	if s := open(t, f, 1); s.Meta().Gen != 3 {
		t.Error("it is of 3")
	}
	// what is longer may be gone from the state, but not from what a block must tell
	f = simfs.New(1 << 20)
	s = open(t, f, 3)
	do(t, s, add(6, 1, "a", strings.Repeat("v", 48)), cut, api.Op{Kind: 2, T: 7}, api.Op{Kind: 7, Gen: 1}, compact)
	if s.Meta().Gen != 1 || text(s.State()) != "7" {
		t.Errorf("%v %s", s.Meta(), text(s.State()))
	}
}

func TestManyBlocks(t *testing.T) {
	f := simfs.New(1 << 20)
	s := open(t, f, 2)
	for i := range int64(40) {
		do(t, s, add(i, 1, "a", "x"), cut)
	}
	was := files(f)
	if a := s.Do(cut); a.Err != api.ErrMany || files(f) != was {
		t.Errorf("41 blocks: %v", a.Err)
	}
	if a := s.Do(api.Op{Kind: 7, Gen: 1}); a.Err != api.ErrMany || files(f) != was {
		t.Errorf("41 blocks: %v", a.Err)
	}
	do(t, s, api.Op{Kind: 7, Gen: 2}, add(40, 1, "a", "x"))
	s = open(t, f, 2)
	do(t, s, compact, cut)
	if len(s.Meta().Blocks) != 2 || len(s.State().Series[0].Samples) != 41 || len(f.List()) != 4 {
		t.Errorf("%v", s.Meta())
	}
}

// numbered is a full store, whose next number is another one.
func numbered(t *testing.T, next int) (*simfs.Fs, *engine.Store) {
	t.Helper()
	f, _ := full(t, 3)
	b, err := meta.Put(meta.Meta{Gen: 3, Next: next, Wal: 4, Blocks: []int{1, 3}})
	if err != api.OK {
		t.Fatal(err)
	}
	put(f, "meta", b)
	return f, open(t, f, 3)
}

func TestNumbers(t *testing.T) {
	for _, x := range []struct {
		next int
		o    api.Op
		err  api.Errno
	}{{999997, cut, api.OK}, {999998, cut, api.ErrMany}, {999999, cut, api.ErrMany}, {999998, compact, api.OK}, {999999, compact, api.ErrMany}, {999997, api.Op{Kind: 7, Gen: 1}, api.OK}, {999998, api.Op{Kind: 7, Gen: 1}, api.ErrMany}} {
		f, s := numbered(t, x.next)
		was := files(f)
		a := s.Do(x.o)
		if a.Err != x.err || (files(f) == was) != (x.err != api.OK) || text(s.State()) != fullText {
			t.Errorf("%d %v: %v", x.next, x.o, a.Err)
		}
		if s = open(t, f, 3); text(s.State()) != fullText {
			t.Errorf("%d %v: %s", x.next, x.o, text(s.State()))
		}
	}
	f, s := numbered(t, 999998)
	do(t, s, compact)
	if s.Do(cut).Err != api.ErrMany || s.Do(add(9, 9, "a", "x")).Err != api.OK || s.Meta().Next != 999999 || !slices.Contains(f.List(), "block-999998") {
		t.Errorf("%v", s.Meta())
	}
}

func TestGate(t *testing.T) {
	for gen := 1; gen <= 3; gen++ {
		for i, x := range []struct {
			name, b string
			err     api.Errno
		}{
			{"journal", "", api.ErrBusy}, {"journal", "any", api.ErrBusy}, {"other", frame.Head("AMET", 9, 0), api.OK}, {"wal-000099", frame.Head("AWAL", 4, 0), api.ErrFuture}, {"block-000099", frame.Head("ABLK", 3, 8), api.ErrFuture}, {"wal-000099", frame.Head("ABLK", 4, 0), api.OK}, {"block-000099", "", api.OK}, {"block-99", frame.Head("ABLK", 4, 0), api.OK}, {"tmp-meta", frame.Head("AMET", 4, 0), api.OK}, {"tmp-journal", "", api.OK},
			{"meta", frame.Head("AMET", 4, 0), api.ErrFuture}, {"meta", frame.Head("AMET", 1, 4), api.ErrFuture}, {"meta", "", api.ErrCorrupt}, {"wal-000004", frame.Head("AWAL", 2, 255), api.ErrFuture}, {"block-000001", frame.Head("ABLK", 255, 0), api.ErrFuture},
		} {
			f, _ := full(t, gen)
			put(f, x.name, x.b)
			was, at := files(f), f.Steps()
			want := x.err
			if want == api.ErrCorrupt {
				want = api.OK
			}
			if err := engine.Gate(f); err != want {
				t.Errorf("%d: %v, not %v", i, err, want)
			}
			m, base, state, seg, err := engine.Load(f)
			if err != x.err || err != api.OK && (m.Gen != 0 || text(base) != "0" || text(state) != "0" || seg.Used != 0) || files(f) != was || f.Steps() != at {
				t.Errorf("%d: %v", i, err)
			}
			s, err := engine.Open(f, gen)
			if err != x.err || (s == nil) != (err != api.OK) {
				t.Errorf("%d: %v", i, err)
			}
			if err != api.OK && (files(f) != was || f.Steps() != at) {
				t.Errorf("%d: something is written", i)
			}
			if err == api.OK && len(f.List()) != 4 {
				t.Errorf("%d: %v", i, f.List())
			}
		}
	}
	f, _ := full(t, 3)
	put(f, "journal", "")
	put(f, "wal-000099", frame.Head("AWAL", 4, 0))
	if err := engine.Gate(f); err != api.ErrFuture {
		t.Errorf("the future is told first: %v", err)
	}
	f.Remove("wal-000099")
	f.Remove("meta")
	if _, _, _, _, err := engine.Load(f); err != api.ErrBusy {
		t.Errorf("busy is told first: %v", err)
	}
	f.Fuse(0)
	f.SyncDir()
	if err := engine.Gate(f); err != api.ErrDead {
		t.Errorf("%v", err)
	}
	if _, _, _, _, err := engine.Load(simfs.New(5)); err != api.ErrNone {
		t.Errorf("%v", err)
	}
}

func TestCorrupt(t *testing.T) {
	for gen := 1; gen <= 3; gen++ {
		whole, _ := full(t, gen)
		for _, n := range whole.List() {
			f := copied(whole)
			f.Remove(n)
			want := api.ErrCorrupt
			if n == "meta" {
				want = api.ErrNone
			}
			if _, _, _, _, err := engine.Load(f); err != want {
				t.Errorf("%d: without %s: %v", gen, n, err)
			}
			if s, err := engine.Open(f, gen); n != "meta" && (s != nil || err != api.ErrCorrupt) {
				t.Errorf("%d: without %s: %v", gen, n, err)
			} else if n == "meta" && (err != api.OK || text(s.State()) != "0" || len(f.List()) != 2) {
				t.Errorf("%d: a new store: %v", gen, err)
			}
			b, _ := whole.Read(n)
			for i := range b {
				x := []byte(b)
				x[i] ^= 1
				f := copied(whole)
				put(f, n, string(x))
				was := files(f)
				s, err := engine.Open(f, gen)
				short := err == api.OK && i >= 10 && strings.HasPrefix(n, "wal") && text(s.State()) == `0 {a="x"}[{1 1} {4 4}]4 {b="y"}[{3 3}]3`
				if !short && (err != api.ErrCorrupt || s != nil || files(f) != was) {
					t.Fatalf("%d: byte %d of %s is another one: %v", gen, i, n, err)
				}
			}
		}
		// changes that could not have been, and a block that can't be over the others
		f := copied(whole)
		head, w, _ := wal.Begin(gen)
		b, _, _ := wal.Put(w, []api.Rec{{Kind: 0, Labels: labels("a", "x"), T: 4, V: 4}})
		put(f, "wal-000004", head+b)
		if _, err := engine.Open(f, gen); err != api.ErrCorrupt {
			t.Errorf("%d: %v", gen, err)
		}
		f = copied(whole)
		one, _ := f.Read("block-000001")
		put(f, "block-000003", one)
		if _, err := engine.Open(f, gen); err != api.ErrCorrupt {
			t.Errorf("%d: %v", gen, err)
		}
		b, _ = block.Put(block.Block{Series: []api.Series{{Labels: labels("a", "x"), Samples: []api.Sample{{T: 9}}, Last: 8}}}, gen)
		put(f, "block-000003", b)
		if _, err := engine.Open(f, gen); err != api.ErrCorrupt {
			t.Errorf("%d: %v", gen, err)
		}
	}
}

func TestTornIsRepaired(t *testing.T) {
	for gen := 1; gen <= 3; gen++ {
		f := simfs.New(1 << 20)
		s := open(t, f, gen)
		do(t, s, add(1, 1, "a", "x"))
		used, _ := f.Read("wal-000000")
		do(t, s, add(2, 2, "a", "x"))
		b, _ := f.Read("wal-000000")
		for n := len(used); n < len(b); n++ {
			f := copied(f)
			put(f, "wal-000000", b[:n])
			at := f.Steps()
			s := open(t, f, gen)
			steps := 2
			if n == len(used) {
				steps = 0
			}
			if got, _ := f.Read("wal-000000"); got != used || f.Steps()-at != steps || text(s.State()) != `0 {a="x"}[{1 1}]1` {
				t.Fatalf("%d: %d bytes: %s", gen, n, text(s.State()))
			}
			do(t, s, add(3, 3, "a", "x"), sync)
			f.Crash(nil)
			if s := open(t, f, gen); text(s.State()) != `0 {a="x"}[{1 1} {3 3}]3` {
				t.Fatalf("%d: %d bytes: %s", gen, n, text(s.State()))
			}
		}
	}
}

// A store whose files are of several generations goes on; its segment tells as its own generation does.
func TestMixed(t *testing.T) {
	f, _ := full(t, 1)
	b, _ := meta.Put(meta.Meta{Gen: 3, Next: 5, Wal: 4, Blocks: []int{1, 3}})
	put(f, "meta", b)
	one, _ := f.Read("block-000001")
	two, _ := block.Turn(one, 2)
	put(f, "block-000001", two)
	s := open(t, f, 3)
	if text(s.State()) != fullText || s.Meta().Gen != 3 {
		t.Error(text(s.State()))
	}
	if a := s.Do(add(9, 9, "a", strings.Repeat("v", 48))); a.Err != api.ErrLong {
		t.Errorf("a segment of generation 1: %v", a.Err)
	}
	do(t, s, add(9, 9, "a", "x"), cut, add(9, 9, "a", strings.Repeat("v", 48)), sync)
	f.Crash(nil)
	if s := open(t, f, 3); len(s.State().Series) != 4 {
		t.Error(text(s.State()))
	}
}

// T1: there is no room, and then nothing is changed.
func TestNoRoom(t *testing.T) {
	for gen := 1; gen <= 3; gen++ {
		f, s := full(t, gen)
		state, m := text(s.State()), s.Meta()
		size := f.Size()
		want := s.Do(api.Op{Kind: 3, T: 0, To: 99})
		for room := size; ; room++ {
			f.Room(room)
			var errs []api.Errno
			for _, o := range []api.Op{add(7, 7, "d", "w"), cut, compact, {Kind: 7, Gen: gen%3 + 1}} {
				was := files(f)
				a := s.Do(o)
				errs = append(errs, a.Err)
				if a.Err == api.OK {
					f, s = full(t, gen)
					f.Room(room)
					continue
				}
				if a.Err != api.ErrFull || files(f) != was || text(s.State()) != state || !meta.Same(s.Meta(), m) || fmt.Sprint(s.Do(api.Op{Kind: 3, T: 0, To: 99})) != fmt.Sprint(want) {
					t.Fatalf("%d: room %d, %v: %v %s", gen, room-size, o, a.Err, text(s.State()))
				}
			}
			if !slices.Contains(errs, api.ErrFull) {
				break
			}
		}
		f, s = full(t, gen)
		f.Room(f.Size())
		s.Do(cut)
		f.Crash([]int{5, 4, 3})
		if s := open(t, f, gen); text(s.State()) != state {
			t.Errorf("%d: %s", gen, text(s.State()))
		}
	}
}

func someOp(r *rand.Rand, now int64) api.Op {
	m := []api.Matcher{{Kind: r.Intn(2), Name: "a", Value: fmt.Sprint(r.Intn(4))}}
	switch r.Intn(16) {
	case 0, 1:
		from := r.Int63n(now + 5)
		return api.Op{Kind: 1, Matchers: m, T: from, To: from + r.Int63n(9)}
	case 2:
		return api.Op{Kind: 2, T: r.Int63n(now + 3)}
	case 3:
		return api.Op{Kind: 3, Matchers: m, To: r.Int63n(now + 5)}
	case 4:
		return sync
	case 5:
		return cut
	case 6:
		return compact
	case 7:
		return api.Op{Kind: 7, Gen: 1 + r.Intn(3)}
	}
	l := labels("a", fmt.Sprint(r.Intn(4)))
	if r.Intn(9) == 0 {
		l = labels("a", strings.Repeat("v", 10+r.Intn(30)))
	}
	return api.Op{Labels: l, T: now - r.Int63n(3), V: uint64(r.Intn(3))}
}

// T1: each operation answers as the model does, and what is opened again is the same.
func TestModel(t *testing.T) {
	r := rand.New(rand.NewSource(1))
	for range 40 {
		f := simfs.New(1 << 20)
		s := open(t, f, 1+r.Intn(3))
		var model truth.State
		for now := range int64(150) {
			o := someOp(r, now+3)
			if o.Kind < 4 {
				next, want, _ := truth.Do(model, o, s.Meta().Gen)
				if a := s.Do(o); fmt.Sprint(a) != fmt.Sprint(want) {
					t.Fatalf("%v: %v, not %v", o, a, want)
				}
				model = next
			} else if a := s.Do(o); a.N != 0 || len(a.Series) != 0 || a.Err != api.OK && (a.Err != api.ErrLong || o.Kind != 7) {
				t.Fatalf("%v: %v", o, a)
			}
			if !truth.Same(s.State(), model) {
				t.Fatalf("%v: %s, not %s", o, text(s.State()), text(model))
			}
			if r.Intn(9) == 0 {
				at := f.Steps()
				if s = open(t, f, 3); f.Steps() != at || !truth.Same(s.State(), model) {
					t.Fatalf("opened again: %s, not %s", text(s.State()), text(model))
				}
			}
		}
	}
}

// T2: wherever the machine dies, whatever survives: what is opened is what was done up to somewhere, with all that was synced.
func TestDeath(t *testing.T) {
	r := rand.New(rand.NewSource(2))
	for round := range 1500 {
		f := simfs.New(1 << 20)
		s := open(t, f, 1+r.Intn(3))
		states := []truth.State{{}}
		synced := 0
		now := int64(3)
		for range 1 + r.Intn(4) {
			f.Fuse(r.Intn(60))
			for !f.Dead() {
				o := someOp(r, now)
				now++
				last := states[len(states)-1]
				_, _, l := truth.Do(last, o, s.Meta().Gen)
				at := s.Meta().Wal
				a := s.Do(o)
				if o.Kind < 3 && (a.Err == api.OK || a.Err == api.ErrDead) {
					for _, x := range l {
						last, _ = truth.Apply(last, x)
						states = append(states, last)
					}
				}
				if o.Kind == 4 && a.Err == api.OK || s.Meta().Wal != at && a.Err == api.OK {
					synced = len(states) - 1
				}
			}
			var keep []int
			for range r.Intn(8) {
				keep = append(keep, r.Intn(60))
			}
			f.Crash(keep)
			for r.Intn(3) == 0 { // it dies while it is opened
				f.Fuse(r.Intn(4))
				if _, err := engine.Open(f, 3); err == api.OK {
					break
				} else if err != api.ErrDead {
					t.Fatal(err)
				}
				f.Crash(keep)
			}
			f.Fuse(-1)
			s = open(t, f, 3)
			found := -1
			for i := len(states) - 1; i >= synced && found < 0; i-- {
				if truth.Same(states[i], s.State()) {
					found = i
				}
			}
			if found < 0 {
				t.Fatalf("round %d: %s is none of what was done behind what was synced", round, text(s.State()))
			}
			states, synced = states[:found+1], found
			if l := f.List(); len(l) != 2+len(s.Meta().Blocks) {
				t.Fatalf("%v", l)
			}
		}
	}
}

// Any bytes come to an end.
func TestAnyBytes(t *testing.T) {
	r := rand.New(rand.NewSource(3))
	for gen := 1; gen <= 3; gen++ {
		whole, _ := full(t, gen)
		for range 400 {
			f := copied(whole)
			for _, n := range f.List() {
				b, _ := f.Read(n)
				x := []byte(b)
				for range r.Intn(3) {
					x[r.Intn(len(x))] = byte(r.Intn(256))
				}
				put(f, n, string(x[:len(x)-r.Intn(2)*r.Intn(len(x))]))
			}
			if s, err := engine.Open(f, 3); (s == nil) != (err != api.OK) {
				t.Fatal(err)
			}
		}
	}
}
