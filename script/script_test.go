package script_test

import (
	"fmt"
	"math"
	"math/rand"
	"strings"
	"testing"

	"alluvium/api"
	"alluvium/frame"
	"alluvium/mixed"
	"alluvium/plan"
	"alluvium/script"
	"alluvium/simfs"
	"alluvium/tool"
	"alluvium/truth"
)

func labels(l ...string) []api.Label {
	var out []api.Label
	for i := 0; i < len(l); i += 2 {
		out = append(out, api.Label{Name: l[i], Value: l[i+1]})
	}
	return out
}

func add(t int64, v uint64, l ...string) api.Act {
	return api.Act{Op: api.Op{Labels: labels(l...), T: t, V: v}}
}

func op(o api.Op) api.Act { return api.Act{Op: o} }

var (
	sync    = op(api.Op{Kind: 4})
	cut     = op(api.Op{Kind: 5})
	compact = op(api.Op{Kind: 6})
	again   = op(api.Op{Kind: 8})
	resume  = api.Act{Kind: 2}
	all     = op(api.Op{Kind: 3, T: math.MinInt64, To: math.MaxInt64})
)

func migrate(gen int) api.Act { return api.Act{Kind: 1, N: gen} }

func fuse(n int) api.Act { return api.Act{Kind: 3, N: n} }

func crash(keep ...int) api.Act { return api.Act{Kind: 4, Keep: keep} }

func room(n int) api.Act { return api.Act{Kind: 5, N: n} }

func put(f *simfs.Fs, name, b string) {
	f.Create(name)
	f.Cut(name, 0)
	f.Append(name, b)
	f.Sync(name)
	f.SyncDir()
}

func world(t *testing.T, gen int) *script.World {
	t.Helper()
	w, err := script.New(1<<20, gen)
	if err != api.OK {
		t.Fatal(err)
	}
	return w
}

func TestExample(t *testing.T) {
	l, err := script.Run(1000, 3, []api.Act{add(5, 1, "a", "x"), sync, crash(), all})
	if err != api.OK || len(l) != 4 || fmt.Sprint(l[3].Answer) != "{error 0 0 [{[{a x}] [{5 1}] 0}]}" {
		t.Errorf("%v %v", l, err)
	}
}

func TestNew(t *testing.T) {
	for gen := -1; gen <= 5; gen++ {
		w, err := script.New(1000, gen)
		if gen < 1 || gen > 3 {
			if w != nil || err != api.ErrArg {
				t.Errorf("%d: %v", gen, err)
			}
			continue
		}
		s, ok := w.State()
		if err != api.OK || !ok || mixed.Dump(s) != "0\n" || script.Why(w) != api.OK || w.Files().Steps() != 10 || mixed.Check(w.Files(), gen) != api.OK {
			t.Errorf("%d: %v", gen, err)
		}
	}
	for _, room := range []int{0, 9, -1, math.MinInt} {
		if w, err := script.New(room, 3); w != nil || err != api.ErrFull {
			t.Errorf("%d: %v", room, err)
		}
		if l, err := script.Run(room, 3, []api.Act{sync}); len(l) != 0 || err != api.ErrFull {
			t.Errorf("%d: %v", room, err)
		}
	}
	if l, err := script.Run(1000, 0, []api.Act{sync}); len(l) != 0 || err != api.ErrArg {
		t.Errorf("%v", err)
	}
	if l, err := script.Run(1000, 1, nil); len(l) != 0 || err != api.OK {
		t.Errorf("%v", err)
	}
}

func TestNil(t *testing.T) {
	var w *script.World
	if s, ok := w.State(); ok || len(s.Series) != 0 || w.Files() != nil || script.Why(w) == api.OK || w.Do(sync).Open {
		t.Error("a world that is none")
	}
}

// show tells a result.
func show(r script.Result) string {
	return fmt.Sprintf("%d %d %d gen %d %v %d steps", r.Answer.Err, r.Answer.N, len(r.Answer.Series), r.Gen, r.Open, r.Steps)
}

// Each act comes to what the chapter tells: the error, N, how many series; the generation, whether it is open, the steps.
func TestActs(t *testing.T) {
	table := []struct {
		act  api.Act
		want string
	}{
		{add(5, 1, "a", "x"), "0 1 0 gen 3 true 11 steps"},
		{add(5, 2, "a", "x"), "5 0 0 gen 3 true 11 steps"},
		{add(5, 1, "a"+strings.Repeat("a", 47), "x"), "0 1 0 gen 3 true 12 steps"},
		{all, "0 0 2 gen 3 true 12 steps"},
		{sync, "0 0 0 gen 3 true 13 steps"},
		{again, "0 0 0 gen 3 true 13 steps"},
		{migrate(2), "3 0 0 gen 3 true 13 steps"},
		{op(api.Op{Kind: 7, Gen: 2}), "3 0 0 gen 3 true 13 steps"},
		{op(api.Op{Kind: 2, T: 6}), "0 2 0 gen 3 true 14 steps"},
		{migrate(2), "3 0 0 gen 3 true 14 steps"},
		{cut, "0 0 0 gen 3 true 31 steps"},
		{compact, "0 0 0 gen 3 true 31 steps"},
		{migrate(2), "0 3 0 gen 2 true 53 steps"},
		{migrate(2), "0 0 0 gen 2 true 53 steps"},
		{migrate(0), "1 0 0 gen 2 true 53 steps"},
		{resume, "0 0 0 gen 2 true 53 steps"},
		{op(api.Op{Kind: 7, Gen: 1}), "0 0 0 gen 1 true 65 steps"},
		{api.Act{Kind: 6}, "1 0 0 gen 1 true 65 steps"},
		{api.Act{Kind: -1}, "1 0 0 gen 1 true 65 steps"},
		{api.Act{Kind: math.MaxInt, Op: sync.Op}, "1 0 0 gen 1 true 65 steps"},
		{op(api.Op{Kind: 9}), "1 0 0 gen 1 true 65 steps"},
		{room(0), "0 0 0 gen 1 true 65 steps"},
		{add(9, 1, "a", "x"), "8 0 0 gen 1 true 65 steps"},
		{room(-5), "0 0 0 gen 1 true 65 steps"},
		{migrate(3), "8 0 0 gen 1 true 67 steps"},
		{room(1 << 20), "0 0 0 gen 1 true 67 steps"},
		{fuse(12), "0 0 0 gen 1 true 67 steps"},
		{migrate(3), "13 0 0 gen 0 false 79 steps"},
		{again, "13 0 0 gen 0 false 79 steps"},
		{all, "13 0 0 gen 0 false 79 steps"},
		{migrate(3), "13 0 0 gen 0 false 79 steps"},
		{resume, "13 0 0 gen 0 false 79 steps"},
		{room(1 << 20), "0 0 0 gen 0 false 79 steps"},
		{api.Act{Kind: 7}, "1 0 0 gen 0 false 79 steps"},
		{crash(), "14 0 0 gen 0 false 79 steps"},
		{add(9, 1, "a", "x"), "14 0 0 gen 0 false 79 steps"},
		{again, "14 0 0 gen 0 false 79 steps"},
		{migrate(3), "14 0 0 gen 0 false 79 steps"},
		{resume, "0 2 0 gen 3 true 91 steps"},
		{add(9, 1, "a", "x"), "0 1 0 gen 3 true 92 steps"},
		{fuse(0), "0 0 0 gen 3 true 92 steps"},
		{all, "0 0 1 gen 3 true 92 steps"},
		{sync, "13 0 0 gen 0 false 92 steps"},
		{fuse(-1), "0 0 0 gen 0 false 92 steps"},
		{crash(0, 1, 0, 0, 0, 0, 1), "0 0 0 gen 3 true 94 steps"},
		{all, "0 0 0 gen 3 true 94 steps"},
	}
	var acts []api.Act
	for _, x := range table {
		acts = append(acts, x.act)
	}
	l, err := script.Run(1<<20, 3, acts)
	w := world(t, 3)
	for i, r := range l {
		one, want := w.Do(acts[i]), table[i].want
		if show(r) != want || show(one) != want {
			t.Errorf("%d: %s, %s, not %s", i, show(r), show(one), want)
		}
		s, ok := w.State()
		if why := script.Why(w); ok != r.Open || (why == api.OK) != ok || !ok && len(s.Series) != 0 || w.Files().Dead() && why != api.ErrDead {
			t.Errorf("%d: %v %v", i, ok, why)
		}
	}
	if err != api.OK || len(l) != len(acts) {
		t.Errorf("%v", err)
	}
}

// T4: of a version, or with a flag, that is not known, nothing is written, and it is told so.
func TestFuture(t *testing.T) {
	for name, b := range map[string]string{"meta": frame.Head("AMET", 4, 0), "wal-000000": frame.Head("AWAL", 3, 4), "block-000777": frame.Head("ABLK", 200, 0)} {
		w := world(t, 3)
		w.Do(add(1, 1, "a", "x"))
		put(w.Files(), name, b)
		steps := w.Files().Steps()
		for i, x := range []struct {
			act api.Act
			err api.Errno
		}{{again, api.ErrFuture}, {add(2, 1, "a", "x"), api.ErrFuture}, {migrate(1), api.ErrFuture}, {resume, api.ErrFuture}, {crash(1), api.ErrFuture}, {all, api.ErrFuture}, {room(5), api.OK}} {
			if r := w.Do(x.act); r.Answer.Err != x.err || r.Open || r.Gen != 0 || r.Steps != steps || script.Why(w) != api.ErrFuture {
				t.Errorf("%s: %d: %s", name, i, show(r))
			}
		}
	}
	w := world(t, 3)
	put(w.Files(), "journal", plan.Journal(4))
	for i, x := range []struct {
		act api.Act
		err api.Errno
	}{{again, api.ErrBusy}, {resume, api.ErrFuture}, {migrate(2), api.ErrBusy}} {
		if r := w.Do(x.act); r.Answer.Err != x.err || r.Open || script.Why(w) != api.ErrBusy {
			t.Errorf("%d: %s", i, show(r))
		}
	}
}

func TestCorrupt(t *testing.T) {
	w := world(t, 2)
	put(w.Files(), "wal-000000", "")
	if r := w.Do(again); r.Answer.Err != api.ErrCorrupt || r.Open || script.Why(w) != api.ErrCorrupt {
		t.Error(show(r))
	}
	w.Files().Remove("meta")
	if r := w.Do(resume); r.Answer.Err != api.OK || !r.Open || r.Gen != 3 || script.Why(w) != api.OK {
		t.Error(show(r))
	}
}

// model is what was done: all states, one behind the other, and how many are synced.
type model struct {
	states []truth.State
	synced int
}

func (m *model) last() truth.State { return m.states[len(m.states)-1] }

// add adds the states of an operation, change by change.
func (m *model) add(o api.Op, gen int) api.Answer {
	_, a, l := truth.Do(m.last(), o, gen)
	for _, r := range l {
		s, _ := truth.Apply(m.last(), r)
		m.states = append(m.states, s)
	}
	return a
}

// found goes back to the state that survived; false, if it is none behind what was synced.
func (m *model) found(s truth.State) bool {
	for i := len(m.states) - 1; i >= m.synced; i-- {
		if truth.Same(m.states[i], s) {
			m.states, m.synced = m.states[:i+1], i
			return true
		}
	}
	return false
}

func someAct(r *rand.Rand, now int64) api.Act {
	m := []api.Matcher{{Kind: r.Intn(2), Name: "a", Value: fmt.Sprint(r.Intn(4))}}
	switch n := r.Intn(40); {
	case n < 3:
		from := r.Int63n(now + 5)
		return op(api.Op{Kind: 1, Matchers: m, T: from, To: from + r.Int63n(9)})
	case n < 5:
		return op(api.Op{Kind: 2, T: r.Int63n(now + 3)})
	case n < 8:
		return op(api.Op{Kind: 3, Matchers: m, To: r.Int63n(now + 5)})
	case n < 11:
		return []api.Act{sync, cut, compact}[n-8]
	case n < 13:
		return op(api.Op{Kind: 7, Gen: 1 + r.Intn(3)})
	case n < 14:
		return again
	case n < 16:
		return migrate(1 + r.Intn(3))
	case n < 17:
		return resume
	case n < 19:
		return fuse(r.Intn(50))
	case n < 20:
		return room(1<<10 + r.Intn(1<<12))
	case n < 21:
		return room(1 << 20)
	}
	x := labels("a", fmt.Sprint(r.Intn(4)))
	if r.Intn(30) == 0 {
		x = labels("a", strings.Repeat("v", 10+r.Intn(30)))
	}
	return add(now-r.Int63n(3), uint64(r.Intn(3)), "a", x[0].Value)
}

// T1 to T5, all together: whatever acts are done.
func TestModel(t *testing.T) {
	r := rand.New(rand.NewSource(1))
	for range 400 {
		gen := 1 + r.Intn(3)
		w := world(t, gen)
		m := &model{states: []truth.State{{}}}
		for now := range int64(150) {
			a := someAct(r, now+3)
			if !open(w) {
				a = rescue(r, script.Why(w))
			}
			was := gen
			res := w.Do(a)
			gen = res.Gen
			if msg := m.judge(w, a, res, was); msg != "" {
				t.Fatalf("%v: %s: %s", a, show(res), msg)
			}
		}
	}
}

func open(w *script.World) bool {
	_, ok := w.State()
	return ok
}

// rescue is an act that helps a store that is not open.
func rescue(r *rand.Rand, why api.Errno) api.Act {
	if why == api.ErrBusy && r.Intn(3) > 0 {
		return []api.Act{room(1 << 20), resume, resume}[r.Intn(3)]
	}
	var keep []int
	for range r.Intn(8) {
		keep = append(keep, r.Intn(60))
	}
	return crash(keep...)
}

// judge tells what is wrong with a result; nothing, if it is right.
func (m *model) judge(w *script.World, a api.Act, res script.Result, gen int) string {
	switch {
	case a.Kind == 0 && a.Op.Kind < 4 && gen > 0:
		want := api.Answer{}
		n := len(m.states)
		if want = m.add(a.Op, gen); res.Answer.Err == api.ErrFull {
			m.states = m.states[:n]
		} else if fmt.Sprint(res.Answer) != fmt.Sprint(want) && res.Answer.Err != api.ErrDead {
			return fmt.Sprint("not ", want)
		}
	case a.Kind == 0 && a.Op.Kind == 4 && res.Answer.Err == api.OK:
		m.synced = len(m.states) - 1
	case a.Kind == 4:
		s, err := mixed.View(w.Files(), 3)
		if err != api.OK || !m.found(s) {
			return fmt.Sprint("it is none of what was done: ", err)
		}
	}
	if a.Kind == 1 && res.Answer.Err == api.OK && res.Open && mixed.Check(w.Files(), a.N) != api.OK {
		return "it is not all of its generation"
	}
	if s, ok := w.State(); ok && !truth.Same(s, m.last()) {
		return "another state"
	}
	if res.Open != open(w) || !res.Open && res.Gen != 0 || res.Steps != w.Files().Steps() || script.Why(w) == api.ErrCorrupt {
		return "another world"
	}
	return ""
}

// T5, by acts: a migration that dies at every step, and goes on.
func TestMigrationGoesOn(t *testing.T) {
	for n := range 60 {
		for _, keep := range [][]int{nil, {1}, {2, 1}, {3, 5, 7}, {9}} {
			w := world(t, 3)
			for _, a := range []api.Act{add(1, 1, "a", "x"), cut, add(2, 2, "a", "x"), cut, add(3, 3, "b", "y"), sync, fuse(n)} {
				w.Do(a)
			}
			r := w.Do(migrate(1))
			if r.Answer.Err != api.OK && r.Answer.Err != api.ErrDead {
				t.Fatal(show(r))
			}
			w.Do(crash(keep...))
			gen, pending := tool.Pending(w.Files())
			if pending != (script.Why(w) == api.ErrBusy) || pending && gen != 1 {
				t.Fatalf("%d: %v %v", n, pending, script.Why(w))
			}
			at := w.Files().Steps()
			if r = w.Do(resume); r.Answer.Err != api.OK || !r.Open || pending && r.Gen != 1 || r.Steps-at > tool.Bound(4, 2) {
				t.Fatalf("%d: %s", n, show(r))
			}
			at = w.Files().Steps()
			if r = w.Do(resume); r.Answer.Err != api.OK || r.Steps != at {
				t.Fatalf("%d: %s", n, show(r))
			}
			if s, _ := w.State(); mixed.Dump(s) != "0\n{a=\"x\"} 2\n 1 1\n 2 2\n{b=\"y\"} 3\n 3 3\n" {
				t.Fatalf("%d: %s", n, mixed.Dump(s))
			}
		}
	}
}

// The state that is told shares nothing with the store.
func TestStateSharesNothing(t *testing.T) {
	w := world(t, 3)
	l := labels("a", "x")
	w.Do(op(api.Op{Labels: l, T: 1, V: 1}))
	l[0].Value = "spoilt"
	s, _ := w.State()
	s.Series[0].Samples[0].V = 666
	if s, _ := w.State(); mixed.Dump(s) != "0\n{a=\"x\"} 1\n 1 1\n" {
		t.Error(mixed.Dump(s))
	}
}
