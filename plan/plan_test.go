package plan_test

import (
	"fmt"
	"math"
	"slices"
	"strings"
	"testing"

	"alluvium/api"
	"alluvium/block"
	"alluvium/crc"
	"alluvium/engine"
	"alluvium/frame"
	"alluvium/label"
	"alluvium/meta"
	"alluvium/plan"
	"alluvium/simfs"
	"alluvium/truth"
	"alluvium/wal"
)

func labels(l ...string) []api.Label {
	var out []api.Label
	for i := 0; i < len(l); i += 2 {
		out = append(out, api.Label{Name: l[i], Value: l[i+1]})
	}
	return out
}

func add(t int64, v uint64, l ...string) api.Op { return api.Op{Labels: labels(l...), T: t, V: v} }

func text(s truth.State) string {
	b := fmt.Sprint(s.Floor)
	for _, x := range s.Series {
		b += fmt.Sprintf(" %s%v%d", label.Show(x.Labels), x.Samples, x.Last)
	}
	return b
}

func files(f *simfs.Fs) string {
	b := ""
	for _, n := range f.List() {
		s, _ := f.Read(n)
		b += fmt.Sprintf("%s=%q ", n, s)
	}
	return b
}

func put(f *simfs.Fs, name, b string) {
	f.Create(name)
	f.Cut(name, 0)
	f.Append(name, b)
	f.Sync(name)
	f.SyncDir()
}

// store is a machine with a store, to which operations were done.
func store(t *testing.T, gen int, l ...api.Op) *simfs.Fs {
	t.Helper()
	f := simfs.New(1 << 20)
	s, err := engine.Open(f, gen)
	for _, o := range l {
		if a := s.Do(o); a.Err != api.OK {
			err = a.Err
		}
	}
	if err != api.OK {
		t.Fatal(err)
	}
	return f
}

var (
	sync = api.Op{Kind: 4}
	cut  = api.Op{Kind: 5}
	ops  = []api.Op{add(1, 1, "a", "x"), add(2, 2, "a", "xyz"), cut, api.Op{Kind: 1, T: 2, To: 2}, add(9, 2, "abcde", "x"), cut, add(3, 3, "abcdefg", "x"), add(4, 4, "abcdefg", "x"), sync}
)

const opsText = `0 {a="x"}[{1 1}]1 {a="xyz"}[]2 {abcde="x"}[{9 2}]9 {abcdefg="x"}[{3 3} {4 4}]4`

func TestExample(t *testing.T) {
	p, err := plan.Of(store(t, 3), 2)
	if err != api.OK || fmt.Sprint(p) != "{2 [{wal-000000 3 0} {meta 3 0}] [] false}" {
		t.Errorf("%v %v", p, err)
	}
}

func TestScan(t *testing.T) {
	for gen := 1; gen <= 3; gen++ {
		f := store(t, gen, ops...)
		was, at := files(f), f.Steps()
		items, extra, s, torn, err := plan.Scan(f)
		want := fmt.Sprintf("[{wal-000004 %d 7} {block-000001 %d 3} {block-000003 %d 5} {meta %d 0}]", gen, gen, gen, gen)
		if err != api.OK || fmt.Sprint(items) != want || len(extra) != 0 || text(s) != opsText || torn {
			t.Errorf("%d: %v %v %s %v %v", gen, items, extra, text(s), torn, err)
		}
		for _, n := range []string{"x", "journal", "block-000002", "wal-000000", "tmp-journal", "a", "wal-4"} {
			put(f, n, "any")
		}
		b, _ := f.Read("wal-000004")
		f.Append("wal-000004", "\x80")
		items, extra, s, torn, err = plan.Scan(f)
		if err != api.OK || fmt.Sprint(items) != want || fmt.Sprint(extra) != "[a block-000002 tmp-journal wal-000000 wal-4 x]" || text(s) != opsText || !torn {
			t.Errorf("%d: %v %v %s %v %v", gen, items, extra, text(s), torn, err)
		}
		if f.Cut("wal-000004", len(b)); f.Steps() <= at || !strings.Contains(files(f), was[:20]) {
			t.Errorf("%d", gen)
		}
		for to := 1; to <= 3; to++ {
			p, err := plan.Of(f, to)
			n := 4
			if to == gen {
				n = 0
			}
			if err != api.OK || p.Gen != to || len(p.Items) != n || len(p.Extra) != 6 || p.Torn {
				t.Errorf("%d to %d: %v %v", gen, to, p, err)
			}
		}
	}
}

func TestMixed(t *testing.T) {
	f := store(t, 3, ops...)
	b, _ := f.Read("block-000001")
	s, err := plan.Turn("block-000001", b, 1)
	if err != api.OK {
		t.Fatal(err)
	}
	put(f, "block-000001", s)
	put(f, "z", "")
	f.Append("wal-000004", "\x80\x80")
	for to, want := range map[int]string{1: "{1 [{wal-000004 3 7} {block-000003 3 5} {meta 3 0}] [z] true}", 2: "{2 [{wal-000004 3 7} {block-000001 1 3} {block-000003 3 5} {meta 3 0}] [z] true}", 3: "{3 [{block-000001 1 3}] [z] true}"} {
		if p, err := plan.Of(f, to); err != api.OK || fmt.Sprint(p) != want {
			t.Errorf("%d: %v %v", to, p, err)
		}
	}
}

func TestLong(t *testing.T) {
	for n, first := range map[int]int{12: 1, 13: 2, 24: 2, 25: 3, 48: 3} {
		long := add(1, 1, "a", strings.Repeat("v", n))
		// in the segment, in a block, and of a series that is gone
		for i, l := range [][]api.Op{{long}, {long, cut}, {long, cut, {Kind: 2, T: 9}, cut}, {long, {Kind: 2, T: 9}}} {
			f := store(t, 3, l...)
			for to := 1; to <= 3; to++ {
				want := api.ErrLong
				if to >= first {
					want = api.OK
				}
				p, err := plan.Of(f, to)
				if err != want || err != api.OK && fmt.Sprint(p) != "{0 [] [] false}" {
					t.Errorf("%d bytes, %d, to %d: %v %v", n, i, to, p, err)
				}
			}
			items, _, _, _, _ := plan.Scan(f)
			if m := slices.MaxFunc(items, func(a, b plan.Item) int { return a.Long - b.Long }); m.Long != n {
				t.Errorf("%d bytes: %v", n, items)
			}
		}
	}
}

func TestErrs(t *testing.T) {
	for _, gen := range []int{0, 4, -1, math.MaxInt} {
		if p, err := plan.Of(simfs.New(0), gen); err != api.ErrArg || p.Gen != 0 {
			t.Errorf("%d: %v", gen, err)
		}
	}
	dead := store(t, 3)
	dead.Fuse(0)
	dead.SyncDir()
	future := store(t, 3, ops...)
	put(future, "wal-000099", frame.Head("AWAL", 9, 0))
	put(future, "journal", "")
	corrupt := store(t, 3, ops...)
	corrupt.Remove("block-000001")
	put(corrupt, "journal", "")
	odd := store(t, 3, ops...)
	put(odd, "meta", "")
	busy := simfs.New(100)
	put(busy, "journal", plan.Journal(2))
	for i, x := range []struct {
		f   *simfs.Fs
		err api.Errno
	}{{simfs.New(0), api.ErrNone}, {busy, api.ErrNone}, {dead, api.ErrDead}, {future, api.ErrFuture}, {corrupt, api.ErrCorrupt}, {odd, api.ErrCorrupt}} {
		was, at := files(x.f), x.f.Steps()
		items, extra, s, torn, err := plan.Scan(x.f)
		if err != x.err || len(items) != 0 || len(extra) != 0 || text(s) != "0" || torn {
			t.Errorf("%d: %v", i, err)
		}
		if p, err := plan.Of(x.f, 2); err != x.err || fmt.Sprint(p) != "{0 [] [] false}" {
			t.Errorf("%d: %v", i, err)
		}
		if files(x.f) != was || x.f.Steps() != at {
			t.Errorf("%d: something is changed", i)
		}
	}
}

func TestJournal(t *testing.T) {
	for gen := 1; gen <= 3; gen++ {
		s := plan.Journal(gen)
		if s != "AJNL"+string([]byte{byte(gen), 0})+crc.Tail("AJNL"+string([]byte{byte(gen), 0})) {
			t.Errorf("%d: %q", gen, s)
		}
		if g, err := plan.Read(s); g != gen || err != api.OK {
			t.Errorf("%d: %d %v", gen, g, err)
		}
		for i := range s {
			b := []byte(s)
			b[i] ^= 1
			for _, x := range []string{s[:i], string(b)} {
				if g, err := plan.Read(x); g != 0 || err != api.ErrCorrupt {
					t.Errorf("%q: %d %v", x, g, err)
				}
			}
		}
	}
	for s, want := range map[string]api.Errno{"": api.ErrCorrupt, plan.Journal(2) + "x": api.ErrCorrupt, plan.Journal(0): api.ErrCorrupt, frame.Head("AMET", 2, 0): api.ErrCorrupt, frame.Head("AJNL", 2, 1): api.ErrCorrupt, plan.Journal(4): api.ErrFuture, plan.Journal(4) + "x": api.ErrFuture, frame.Head("AJNL", 2, 4): api.ErrFuture, plan.Journal(-1): api.ErrFuture} {
		if g, err := plan.Read(s); g != 0 || err != want {
			t.Errorf("%q: %d %v", s, g, err)
		}
	}
}

// What is turned tells the same.
func TestTurn(t *testing.T) {
	for from := 1; from <= 3; from++ {
		f := store(t, from, ops...)
		for to := 1; to <= 3; to++ {
			g := simfs.New(1 << 20)
			for _, n := range f.List() {
				b, _ := f.Read(n)
				s, err := plan.Turn(n, b, to)
				if err != api.OK || s[4] != byte(to) {
					t.Errorf("%s from %d to %d: %v", n, from, to, err)
				}
				put(g, n, s)
				if from == to && n != "wal-000004" && s != b {
					t.Errorf("%s of %d is another one", n, to)
				}
			}
			m, _, s, _, err := engine.Load(g)
			if err != api.OK || m.Gen != to || m.Next != 5 || text(s) != opsText {
				t.Errorf("from %d to %d: %v %s %v", from, to, m, text(s), err)
			}
		}
	}
}

func TestTurnSegment(t *testing.T) {
	l := []api.Rec{{Labels: labels("a", "x"), T: 5, V: 7}, {Labels: labels("a", "x"), T: 6, V: 7}, {Kind: 2, T: 6}}
	for from := 1; from <= 3; from++ {
		head, w, _ := wal.Begin(from)
		b, _, _ := wal.Put(w, l)
		for to := 1; to <= 3; to++ {
			want, w, _ := wal.Begin(to)
			for i := range l {
				one, next, _ := wal.Put(w, l[i:i+1])
				want, w = want+one, next
			}
			for _, torn := range []string{"", "\x80", "\x05\x01"} {
				for _, name := range []string{"wal-000000", "wal-999999"} {
					if s, err := plan.Turn(name, head+b+torn, to); s != want || err != api.OK {
						t.Errorf("%d to %d: %q, not %q", from, to, s, want)
					}
				}
			}
		}
	}
}

func TestTurnErrs(t *testing.T) {
	long := labels("a", strings.Repeat("v", 30))
	head, w, _ := wal.Begin(3)
	seg, _, _ := wal.Put(w, []api.Rec{{Labels: labels("a", "x")}, {Labels: long}})
	b, _ := block.Put(block.Block{Series: []api.Series{{Labels: long}}}, 3)
	m, _ := meta.Put(meta.Meta{Gen: 3, Next: 1})
	for i, x := range []struct {
		name, s string
		gen     int
		err     api.Errno
	}{
		{"other", "", 0, api.ErrArg}, {"meta", m, 4, api.ErrArg}, {"block-000001", b, -1, api.ErrArg}, {"wal-000001", "", math.MaxInt, api.ErrArg},
		{"", "", 2, api.ErrNone}, {"other", m, 2, api.ErrNone}, {"journal", plan.Journal(3), 2, api.ErrNone}, {"tmp-meta", m, 2, api.ErrNone}, {"wal-1", head, 2, api.ErrNone}, {"metas", m, 2, api.ErrNone}, {"Meta", m, 2, api.ErrNone},
		{"wal-000001", head + seg, 2, api.ErrLong}, {"wal-000001", head + seg, 1, api.ErrLong}, {"block-000001", b, 2, api.ErrLong}, {"wal-000001", head + seg, 3, api.OK}, {"block-000001", b, 3, api.OK},
		{"wal-000001", m, 2, api.ErrCorrupt}, {"block-000001", head, 2, api.ErrCorrupt}, {"meta", b, 2, api.ErrCorrupt}, {"meta", "", 3, api.ErrCorrupt}, {"wal-000001", head + "\x80\x00", 2, api.ErrCorrupt},
		{"wal-000001", frame.Head("AWAL", 4, 0), 2, api.ErrFuture}, {"block-000001", frame.Head("ABLK", 1, 8), 2, api.ErrFuture}, {"meta", frame.Head("AMET", 9, 9), 3, api.ErrFuture},
	} {
		if s, err := plan.Turn(x.name, x.s, x.gen); err != x.err || (s == "") != (err != api.OK) {
			t.Errorf("%d: %q %v, not %v", i, s, err, x.err)
		}
	}
}
