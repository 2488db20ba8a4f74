package tool_test

import (
	"fmt"
	"math"
	"math/rand"
	"strings"
	"testing"

	"alluvium/api"
	"alluvium/engine"
	"alluvium/frame"
	"alluvium/label"
	"alluvium/plan"
	"alluvium/simfs"
	"alluvium/tool"
	"alluvium/truth"
)

func labels(l ...string) []api.Label {
	var out []api.Label
	for i := 0; i < len(l); i += 2 {
		out = append(out, api.Label{Name: l[i], Value: l[i+1]})
	}
	return out
}

func add(t int64, v uint64, l ...string) api.Op { return api.Op{Labels: labels(l...), T: t, V: v} }

func text(s truth.State) string {
	b := fmt.Sprint(s.Floor)
	for _, x := range s.Series {
		b += fmt.Sprintf(" %s%v%d", label.Show(x.Labels), x.Samples, x.Last)
	}
	return b
}

func files(f *simfs.Fs) string {
	b := ""
	for _, n := range f.List() {
		s, _ := f.Read(n)
		b += fmt.Sprintf("%s=%q ", n, s)
	}
	return b
}

func put(f *simfs.Fs, name, b string) {
	f.Create(name)
	f.Cut(name, 0)
	f.Append(name, b)
	f.Sync(name)
	f.SyncDir()
}

// store is a machine with a store, to which operations were done.
func store(t *testing.T, gen int, l ...api.Op) *simfs.Fs {
	t.Helper()
	f := simfs.New(1 << 20)
	s, err := engine.Open(f, gen)
	for _, o := range l {
		if a := s.Do(o); a.Err != api.OK {
			err = a.Err
		}
	}
	if err != api.OK {
		t.Fatal(err)
	}
	return f
}

var (
	sync = api.Op{Kind: 4}
	cut  = api.Op{Kind: 5}
	ops  = []api.Op{add(1, 1, "a", "x"), add(2, 2, "a", "xyz"), cut, api.Op{Kind: 1, T: 2, To: 2}, add(9, 2, "abcde", "x"), cut, add(3, 3, "abcdefg", "x"), add(4, 4, "abcdefg", "x"), sync}
)

const opsText = `0 {a="x"}[{1 1}]1 {a="xyz"}[]2 {abcde="x"}[{9 2}]9 {abcdefg="x"}[{3 3} {4 4}]4`

// tells is what a machine's store tells; it is all of a generation.
func tells(t *testing.T, f *simfs.Fs, gen int) string {
	t.Helper()
	items, extra, s, torn, err := plan.Scan(f)
	if err != api.OK || len(extra) != 0 || torn {
		t.Fatalf("%v %v %v", err, extra, torn)
	}
	for _, x := range items {
		if x.Gen != gen {
			t.Fatalf("%v is not of %d", x, gen)
		}
	}
	if _, busy := f.Read("journal"); busy == api.OK {
		t.Fatal("there is a journal")
	}
	return text(s)
}

func TestExample(t *testing.T) {
	f := store(t, 3)
	at := f.Steps()
	if n, err := tool.Migrate(f, 2); n != 2 || err != api.OK || f.Steps()-at != 17 || tells(t, f, 2) != "0" {
		t.Errorf("%d %v, %d steps", n, err, f.Steps()-at)
	}
}

// T3: what is migrated up, and down again, is all of its generation, and answers alike.
func TestUpAndDown(t *testing.T) {
	for from := 1; from <= 3; from++ {
		for to := 1; to <= 3; to++ {
			f := store(t, from, ops...)
			was := files(f)
			for i, x := range []struct{ gen, n int }{{from, 0}, {to, 4}, {to, 0}, {from, 4}} {
				if from == to {
					x.n = 0
				}
				at := f.Steps()
				n, err := tool.Migrate(f, x.gen)
				if n != x.n || err != api.OK || tells(t, f, x.gen) != opsText || f.Steps()-at > tool.Bound(x.n, 0) || x.n == 0 && f.Steps() != at {
					t.Errorf("%d to %d: %d: %d %v", from, to, i, n, err)
				}
				f.Crash(nil)
				if tells(t, f, x.gen) != opsText {
					t.Errorf("%d to %d: it is not synced", from, to)
				}
				s, err := engine.Open(f, 1)
				if err != api.OK || s.Meta().Gen != x.gen || text(s.State()) != opsText {
					t.Errorf("%d to %d: %v", from, to, err)
				}
			}
			if files(f) != was && from < 3 { // a segment of 3 is told change by change
				t.Errorf("%d to %d: other bytes", from, to)
			}
		}
	}
}

// A downgrade is refused just where a label is too long, and then no byte is another one.
func TestTooLong(t *testing.T) {
	for n, first := range map[int]int{12: 1, 13: 2, 24: 2, 25: 3, 48: 3} {
		for _, l := range [][]api.Op{{add(1, 1, "a", strings.Repeat("v", n))}, {add(1, 1, strings.Repeat("n", n), "x"), cut, {Kind: 2, T: 5}, cut}} {
			for to := 1; to <= 3; to++ {
				f := store(t, 3, l...)
				put(f, "stray", "x")
				was, at := files(f), f.Steps()
				_, err := tool.Migrate(f, to)
				if to >= first && err != api.OK || to < first && (err != api.ErrLong || files(f) != was || f.Steps() != at) {
					t.Errorf("%d bytes to %d: %v", n, to, err)
				}
			}
		}
	}
}

func TestErrs(t *testing.T) {
	dead := store(t, 3)
	dead.Fuse(0)
	dead.SyncDir()
	with := func(name, b string) *simfs.Fs {
		f := store(t, 3, ops...)
		put(f, name, b)
		return f
	}
	without := store(t, 3, ops...)
	without.Remove("wal-000004")
	both := with("journal", plan.Journal(2))
	put(both, "wal-000099", frame.Head("AWAL", 4, 0))
	none := simfs.New(1000)
	put(none, "journal", plan.Journal(2))
	lost := with("journal", plan.Journal(2))
	lost.Remove("block-000001")
	long := store(t, 3, add(1, 1, "a", strings.Repeat("v", 48)))
	put(long, "journal", plan.Journal(2))
	for i, x := range []struct {
		f       *simfs.Fs
		gen     int
		migrate api.Errno
		resume  api.Errno
		pending int
	}{
		{dead, 2, api.ErrDead, api.ErrDead, 0}, {with("wal-000099", frame.Head("AWAL", 4, 0)), 2, api.ErrFuture, api.ErrFuture, 0}, {with("block-000001", frame.Head("ABLK", 2, 4)), 0, api.ErrFuture, api.ErrFuture, 0}, {both, 2, api.ErrFuture, api.ErrFuture, 2},
		{with("meta", ""), 2, api.ErrCorrupt, api.OK, 0}, {without, 2, api.ErrCorrupt, api.OK, 0}, {simfs.New(100), 2, api.ErrNone, api.OK, 0}, {store(t, 3), 0, api.ErrArg, api.OK, 0}, {store(t, 3), 4, api.ErrArg, api.OK, 0}, {simfs.New(100), -1, api.ErrArg, api.OK, 0},
		{with("journal", ""), 0, api.ErrBusy, api.ErrCorrupt, 0}, {with("journal", plan.Journal(2)+"x"), 2, api.ErrBusy, api.ErrCorrupt, 0}, {with("journal", plan.Journal(4)), 2, api.ErrBusy, api.ErrFuture, 0}, {with("journal", frame.Head("AJNL", 3, 0)[:9]), 2, api.ErrBusy, api.ErrCorrupt, 0},
		{none, 2, api.ErrBusy, api.ErrNone, 2}, {lost, 2, api.ErrBusy, api.ErrCorrupt, 2}, {long, 3, api.ErrBusy, api.ErrLong, 2},
	} {
		was, at := files(x.f), x.f.Steps()
		if n, err := tool.Migrate(x.f, x.gen); n != 0 || err != x.migrate {
			t.Errorf("%d: migrate: %d %v", i, n, err)
		}
		if n, err := tool.Resume(x.f); n != 0 || err != x.resume {
			t.Errorf("%d: resume: %d %v", i, n, err)
		}
		if gen, ok := tool.Pending(x.f); gen != x.pending || ok != (x.pending != 0) {
			t.Errorf("%d: pending: %d %v", i, gen, ok)
		}
		if files(x.f) != was || x.f.Steps() != at {
			t.Errorf("%d: something is written", i)
		}
	}
	if n, err := tool.Migrate(nil, 3); n != 0 || err != api.ErrArg {
		t.Errorf("nil: %v", err)
	}
	if gen, ok := tool.Pending(nil); gen != 0 || ok {
		t.Errorf("nil: %d", gen)
	}
	if n, err := tool.Resume(nil); n != 0 || err != api.ErrArg {
		t.Errorf("nil: %v", err)
	}
}

func TestExtraAndTorn(t *testing.T) {
	for gen := 1; gen <= 3; gen++ {
		f := store(t, gen, ops...)
		put(f, "x", "")
		put(f, "tmp-journal", "")
		put(f, "block-000002", "")
		at := f.Steps()
		if n, err := tool.Migrate(f, gen); n != 0 || err != api.OK || tells(t, f, gen) != opsText || f.Steps()-at != 6+3+2 {
			t.Errorf("%d: %d %v, %d steps", gen, n, err, f.Steps()-at)
		}
		f.Append("wal-000004", "\x80")
		at = f.Steps()
		if n, err := tool.Migrate(f, gen); n != 0 || err != api.OK || tells(t, f, gen) != opsText || f.Steps()-at != 5+2+2 {
			t.Errorf("%d: %d %v, %d steps", gen, n, err, f.Steps()-at)
		}
		f.Append("wal-000004", "\x80")
		put(f, "y", "")
		to := gen%3 + 1
		at = f.Steps()
		if n, err := tool.Migrate(f, to); n != 4 || err != api.OK || tells(t, f, to) != opsText || f.Steps()-at != 5+2+20+2+2 {
			t.Errorf("%d: %d %v, %d steps", gen, n, err, f.Steps()-at)
		}
	}
}

func TestPending(t *testing.T) {
	f := store(t, 3, ops...)
	if gen, ok := tool.Pending(f); gen != 0 || ok {
		t.Error("there is none")
	}
	put(f, "journal", plan.Journal(1))
	at := f.Steps()
	if gen, ok := tool.Pending(f); gen != 1 || !ok || f.Steps() != at {
		t.Errorf("%d %v", gen, ok)
	}
	if n, err := tool.Resume(f); n != 4 || err != api.OK || tells(t, f, 1) != opsText {
		t.Errorf("%d %v", n, err)
	}
	if gen, ok := tool.Pending(f); gen != 0 || ok {
		t.Error("it is done")
	}
}

func TestBound(t *testing.T) {
	for _, x := range [][3]int{{0, 0, 12}, {2, 0, 24}, {4, 3, 39}, {42, 22, 286}} {
		if n := tool.Bound(x[0], x[1]); n != x[2] {
			t.Errorf("%v: %d", x, n)
		}
	}
	tool.Bound(math.MaxInt, math.MinInt)
}

// Without room the migration is not done, and goes on when there is.
func TestNoRoom(t *testing.T) {
	f := store(t, 3, ops...)
	size := f.Size()
	for room := size; ; room++ {
		f := store(t, 3, ops...)
		f.Room(room)
		was := files(f)
		n, err := tool.Migrate(f, 1)
		if err == api.OK {
			if n != 4 || tells(t, f, 1) != opsText {
				t.Errorf("%d", n)
			}
			break
		}
		if err != api.ErrFull || n != 0 {
			t.Fatalf("%d %v", n, err)
		}
		gen, pending := tool.Pending(f)
		if room < size+10 && (pending || files(f) != was) || room >= size+10 && (!pending || gen != 1) {
			t.Fatalf("%d: %v", room-size, pending)
		}
		if pending {
			if _, err := engine.Open(f, 3); err != api.ErrBusy {
				t.Fatal(err)
			}
			if _, err := tool.Migrate(f, 1); err != api.ErrBusy {
				t.Fatal(err)
			}
			f.Room(1 << 20)
			if _, err := tool.Resume(f); err != api.OK || tells(t, f, 1) != opsText {
				t.Fatal(err)
			}
		}
	}
}

var keeps = [][]int{nil, {1}, {2}, {3}, {5, 1}, {4, 1, 2}, {1, 1, 3}, {2, 7, 1}, {3, 2, 9, 4}, {6, 5}, {100, 3, 77, 8, 1}}

// T5: a migration that dies goes on, and is done by the next run that does not die, in a bound of steps; a further run writes nothing.
func TestDeath(t *testing.T) {
	r := rand.New(rand.NewSource(1))
	for from := 1; from <= 3; from++ {
		for to := 1; to <= 3; to++ {
			for fuse := range 45 {
				for _, keep := range keeps {
					f := store(t, from, ops...)
					put(f, "stray", "x")
					f.Append("wal-000004", "\x80")
					f.Fuse(fuse)
					n, err := tool.Migrate(f, to)
					if f.Dead() != (err == api.ErrDead) || err != api.OK && n != 0 {
						t.Fatalf("%v", err)
					}
					f.Crash(keep)
					for r.Intn(2) == 0 {
						f.Fuse(r.Intn(20))
						tool.Resume(f)
						f.Crash(keep)
					}
					f.Fuse(-1)
					goesOn(t, f, from, to)
				}
			}
		}
	}
}

// goesOn lets a migration be done, that died anywhere.
func goesOn(t *testing.T, f *simfs.Fs, from, to int) {
	t.Helper()
	items, extra, s, _, err := plan.Scan(f)
	if err != api.OK || text(s) != opsText {
		t.Fatalf("%v: %s", err, text(s))
	}
	gen, pending := tool.Pending(f)
	if gate := engine.Gate(f); pending && (gen != to || gate != api.ErrBusy) || !pending && gate != api.OK {
		t.Fatalf("%v, pending %v", gate, pending)
	}
	at := f.Steps()
	if _, err := tool.Resume(f); err != api.OK || f.Steps()-at > tool.Bound(len(items), len(extra)) {
		t.Fatalf("%v, %d steps", err, f.Steps()-at)
	}
	if !pending {
		if f.Steps() != at {
			t.Fatal("something is written")
		}
		if _, err := tool.Migrate(f, to); err != api.OK || f.Steps()-at > tool.Bound(len(items), len(extra)) {
			t.Fatal(err)
		}
	}
	if tells(t, f, to) != opsText {
		t.Fatal(tells(t, f, to))
	}
	at = f.Steps()
	if n, err := tool.Resume(f); n != 0 || err != api.OK {
		t.Fatal(err)
	}
	if n, err := tool.Migrate(f, to); n != 0 || err != api.OK || f.Steps() != at {
		t.Fatal("a further run writes")
	}
	f.Crash(nil)
	if tells(t, f, to) != opsText {
		t.Fatal("it is not synced")
	}
}

// What is mixed is migrated, too: only what is of another generation.
func TestMixed(t *testing.T) {
	f := store(t, 3, ops...)
	b, _ := f.Read("block-000003")
	s, _ := plan.Turn("block-000003", b, 2)
	put(f, "block-000003", s)
	if n, err := tool.Migrate(f, 3); n != 1 || err != api.OK || tells(t, f, 3) != opsText {
		t.Errorf("%d %v", n, err)
	}
	put(f, "block-000003", s)
	if n, err := tool.Migrate(f, 2); n != 3 || err != api.OK || tells(t, f, 2) != opsText {
		t.Errorf("%d %v", n, err)
	}
}
