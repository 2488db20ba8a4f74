package truth_test

import (
	"fmt"
	"math"
	"math/rand"
	"slices"
	"strings"
	"testing"

	"alluvium/api"
	"alluvium/label"
	"alluvium/truth"
)

func labels(l ...string) []api.Label {
	var out []api.Label
	for i := 0; i < len(l); i += 2 {
		out = append(out, api.Label{Name: l[i], Value: l[i+1]})
	}
	return out
}

func samples(l ...int64) []api.Sample {
	var out []api.Sample
	for i := 0; i < len(l); i += 2 {
		out = append(out, api.Sample{T: l[i], V: uint64(l[i+1])})
	}
	return out
}

func add(t int64, v uint64, l ...string) api.Op { return api.Op{Labels: labels(l...), T: t, V: v} }

// run does operations that do not err.
func run(t *testing.T, s truth.State, ops ...api.Op) truth.State {
	t.Helper()
	for _, o := range ops {
		var a api.Answer
		if s, a, _ = truth.Do(s, o, 3); a.Err != api.OK {
			t.Fatalf("%v: %v", o, a.Err)
		}
	}
	return s
}

// text tells a state, part by part.
func text(s truth.State) string {
	b := fmt.Sprint(s.Floor)
	for _, x := range s.Series {
		b += fmt.Sprintf(" %s%v%d", label.Show(x.Labels), x.Samples, x.Last)
	}
	return b
}

func TestExample(t *testing.T) {
	s, a, l := truth.Do(truth.State{}, add(1, 5, "a", "x"), 1)
	if a.Err != api.OK || a.N != 1 || len(a.Series) != 0 || len(l) != 1 || fmt.Sprint(l[0]) != "{0 [{a x}] 1 0 5}" || text(s) != `0 {a="x"}[{1 5}]1` {
		t.Errorf("%v %v %s", a, l, text(s))
	}
	s2, a, l := truth.Do(s, add(1, 5, "a", "x"), 1)
	if a.Err != api.OK || a.N != 0 || len(l) != 0 || !truth.Same(s, s2) {
		t.Errorf("again: %v %v", a, l)
	}
	s2, a, l = truth.Do(s, add(1, 6, "a", "x"), 1)
	if a.Err != api.ErrDup || a.N != 0 || len(l) != 0 || !truth.Same(s, s2) {
		t.Errorf("another one: %v %v", a, l)
	}
}

func TestAppendErrs(t *testing.T) {
	s := run(t, truth.State{}, add(10, 1, "a", "x"), add(20, 2, "a", "x"), add(7, 1, "b", "y"), api.Op{Kind: 2, T: 5})
	gone := run(t, s, api.Op{Kind: 1, T: 20, To: 20})
	v12, v13, v24, v25, v48 := strings.Repeat("v", 12), strings.Repeat("v", 13), strings.Repeat("v", 24), strings.Repeat("v", 25), strings.Repeat("v", 48)
	for i, x := range []struct {
		s   truth.State
		o   api.Op
		gen int
		err api.Errno
		n   int
	}{
		{s, add(30, 1), 3, api.ErrLabel, 0}, {s, add(-1, 1, "A", "x"), 3, api.ErrLabel, 0}, {s, add(30, 1, "b", "y", "a", "x"), 3, api.ErrLabel, 0}, {s, add(30, 1, "a", v48+"v"), 3, api.ErrLabel, 0},
		{s, add(30, 1, "a", v12), 1, api.OK, 1}, {s, add(-1, 1, "a", v13), 1, api.ErrLong, 0}, {s, add(30, 1, v13, "x"), 1, api.ErrLong, 0}, {s, add(30, 1, "a", v24), 2, api.OK, 1}, {s, add(30, 1, "a", v25), 2, api.ErrLong, 0}, {s, add(30, 1, "a", v48), 3, api.OK, 1},
		{s, add(30, 1, "a", "x"), 0, api.ErrLong, 0}, {s, add(30, 1, "a", "x"), 4, api.ErrLong, 0},
		{s, add(-1, 1, "a", "x"), 3, api.ErrArg, 0}, {s, add(api.MaxTime+1, 1, "a", "x"), 3, api.ErrArg, 0}, {s, add(math.MinInt64, 1, "a", "x"), 3, api.ErrArg, 0}, {s, add(api.MaxTime, 1, "a", "x"), 3, api.OK, 1},
		{s, add(4, 1, "a", "x"), 3, api.ErrLate, 0}, {s, add(4, 1, "c", "x"), 3, api.ErrLate, 0}, {s, add(5, 1, "c", "x"), 3, api.OK, 1},
		{s, add(19, 1, "a", "x"), 3, api.ErrOrder, 0}, {s, add(10, 1, "a", "x"), 3, api.ErrOrder, 0}, {s, add(20, 2, "a", "x"), 3, api.OK, 0}, {s, add(20, 3, "a", "x"), 3, api.ErrDup, 0}, {s, add(21, 2, "a", "x"), 3, api.OK, 1},
		{gone, add(20, 2, "a", "x"), 3, api.ErrDup, 0}, {gone, add(19, 2, "a", "x"), 3, api.ErrOrder, 0}, {gone, add(21, 2, "a", "x"), 3, api.OK, 1},
		{s, api.Op{Kind: 4}, 3, api.ErrArg, 0}, {s, api.Op{Kind: -1}, 3, api.ErrArg, 0}, {s, api.Op{Kind: math.MaxInt}, 3, api.ErrArg, 0}, {s, api.Op{Kind: math.MinInt}, 3, api.ErrArg, 0}, {s, api.Op{Kind: 8}, 3, api.ErrArg, 0},
	} {
		was := text(x.s)
		got, a, l := truth.Do(x.s, x.o, x.gen)
		if a.Err != x.err || a.N != x.n || len(l) != x.n || len(a.Series) != 0 {
			t.Errorf("%d: %v %v", i, a, l)
		}
		if text(x.s) != was || x.n == 0 && text(got) != was || x.n == 1 && text(got) == was {
			t.Errorf("%d: %s", i, text(got))
		}
	}
}

func TestMany(t *testing.T) {
	var s truth.State
	for i := range 200 {
		s = run(t, s, add(int64(i), 1, "a", "x"))
	}
	if _, a, _ := truth.Do(s, add(200, 1, "a", "x"), 3); a.Err != api.ErrMany {
		t.Errorf("201 samples: %v", a.Err)
	}
	if _, a, _ := truth.Do(s, add(199, 1, "a", "x"), 3); a.Err != api.OK || a.N != 0 {
		t.Errorf("the last one again: %v", a)
	}
	if _, a, _ := truth.Do(s, add(198, 1, "a", "x"), 3); a.Err != api.ErrOrder {
		t.Errorf("an earlier one: %v", a.Err)
	}
	less := run(t, s, api.Op{Kind: 1, T: 3, To: 3})
	if _, a, _ := truth.Do(less, add(200, 1, "a", "x"), 3); a.Err != api.OK || a.N != 1 {
		t.Errorf("one went: %v", a)
	}
	for i := 1; i < 20; i++ {
		s = run(t, s, add(5, 1, "b", fmt.Sprint(i)))
	}
	if _, a, _ := truth.Do(s, add(5, 1, "c", "x"), 3); a.Err != api.ErrMany || len(s.Series) != 20 {
		t.Errorf("21 series: %v", a.Err)
	}
	if _, a, _ := truth.Do(s, add(6, 1, "b", "7"), 3); a.Err != api.OK || a.N != 1 {
		t.Errorf("one of 20: %v", a)
	}
}

func TestNewSeriesStandInOrder(t *testing.T) {
	s := run(t, truth.State{}, add(1, 1, "b", "x"), add(1, 2, "a", "x"), add(1, 3, "a", "w"), add(1, 4, "c", "x"), add(1, 5, "aa", "x"), add(1, 6, "a", "x", "b", "x"))
	want := `0 {a="w"}[{1 3}]1 {a="x"}[{1 2}]1 {a="x",b="x"}[{1 6}]1 {b="x"}[{1 1}]1 {c="x"}[{1 4}]1 {aa="x"}[{1 5}]1`
	if text(s) != want || !truth.Valid(s) {
		t.Error(text(s))
	}
}

func TestDelete(t *testing.T) {
	s := run(t, truth.State{}, add(1, 1, "a", "x"), add(2, 2, "a", "x"), add(3, 3, "a", "x"), add(2, 4, "a", "y"), add(9, 5, "b", "x"))
	got, a, l := truth.Do(s, api.Op{Kind: 1, T: 2, To: 3}, 0)
	if a.Err != api.OK || a.N != 3 || fmt.Sprint(l) != "[{1 [{a x}] 2 3 0} {1 [{a y}] 2 3 0}]" || text(got) != `0 {a="x"}[{1 1}]3 {a="y"}[]2 {b="x"}[{9 5}]9` {
		t.Errorf("%v %v %s", a, l, text(got))
	}
	got, a, l = truth.Do(s, api.Op{Kind: 1, Matchers: []api.Matcher{{Kind: 1, Name: "a", Value: "x"}}, T: math.MinInt64, To: math.MaxInt64}, 3)
	if a.N != 2 || len(l) != 2 || text(got) != `0 {a="x"}[{1 1} {2 2} {3 3}]3 {a="y"}[]2 {b="x"}[]9` {
		t.Errorf("%v %v %s", a, l, text(got))
	}
	for _, o := range []api.Op{{Kind: 1, T: 4, To: 8}, {Kind: 1, Matchers: []api.Matcher{{Name: "q", Value: "x"}}, To: 100}} {
		if got, a, l = truth.Do(s, o, 3); a.Err != api.OK || a.N != 0 || len(l) != 0 || !truth.Same(got, s) {
			t.Errorf("nothing goes: %v %v", a, l)
		}
	}
	for _, o := range []api.Op{{Kind: 1, T: 3, To: 2}, {Kind: 1, To: 9, Matchers: []api.Matcher{{Kind: 4, Name: "a"}}}, {Kind: 3, T: 3, To: 2}, {Kind: 3, To: 9, Matchers: []api.Matcher{{Name: "A"}}}} {
		if got, a, l = truth.Do(s, o, 3); a.Err != api.ErrArg || a.N != 0 || len(a.Series) != 0 || len(l) != 0 || !truth.Same(got, s) {
			t.Errorf("%v: %v %v", o, a, l)
		}
	}
}

func TestFloor(t *testing.T) {
	s := run(t, truth.State{}, add(1, 1, "a", "x"), add(5, 2, "a", "x"), add(4, 3, "b", "x"), add(9, 4, "c", "x"), api.Op{Kind: 1, Matchers: []api.Matcher{{Name: "c", Value: "x"}}, To: 20})
	got, a, l := truth.Do(s, api.Op{Kind: 2, T: 5}, 0)
	if a.Err != api.OK || a.N != 2 || fmt.Sprint(l) != "[{2 [] 5 0 0}]" || text(got) != `5 {a="x"}[{5 2}]5 {c="x"}[]9` {
		t.Errorf("%v %v %s", a, l, text(got))
	}
	up, a, l := truth.Do(got, api.Op{Kind: 2, T: 9}, 3)
	if a.N != 1 || len(l) != 1 || text(up) != `9 {c="x"}[]9` {
		t.Errorf("%v %s", a, text(up))
	}
	up, a, l = truth.Do(up, api.Op{Kind: 2, T: 10}, 3)
	if a.N != 0 || len(l) != 1 || text(up) != `10` {
		t.Errorf("%v %s", a, text(up))
	}
	for _, at := range []int64{0, 4, 5} {
		if same, a, l := truth.Do(got, api.Op{Kind: 2, T: at}, 3); a.Err != api.OK || a.N != 0 || len(l) != 0 || !truth.Same(same, got) {
			t.Errorf("%d: %v %v", at, a, l)
		}
	}
	for _, at := range []int64{-1, api.MaxTime + 1, math.MinInt64, math.MaxInt64} {
		if same, a, l := truth.Do(got, api.Op{Kind: 2, T: at}, 3); a.Err != api.ErrArg || len(l) != 0 || !truth.Same(same, got) {
			t.Errorf("%d: %v %v", at, a, l)
		}
	}
	if top := run(t, got, api.Op{Kind: 2, T: api.MaxTime}); text(top) != fmt.Sprint(api.MaxTime) {
		t.Error(text(top))
	}
}

func TestAsk(t *testing.T) {
	s := run(t, truth.State{}, add(1, 1, "a", "x"), add(5, 2, "a", "x"), add(4, 3, "b", "x"), add(9, 4, "c", "x"))
	got, a, l := truth.Do(s, api.Op{Kind: 3, T: 4, To: 8}, 0)
	if a.Err != api.OK || a.N != 0 || len(l) != 0 || !truth.Same(got, s) || fmt.Sprint(a.Series) != "[{[{a x}] [{5 2}] 0} {[{b x}] [{4 3}] 0}]" {
		t.Errorf("%v %v", a, l)
	}
	_, a, _ = truth.Do(s, api.Op{Kind: 3, Matchers: []api.Matcher{{Kind: 3, Name: "a"}}, T: math.MinInt64, To: math.MaxInt64}, 3)
	if fmt.Sprint(a.Series) != "[{[{a x}] [{1 1} {5 2}] 0}]" {
		t.Errorf("%v", a.Series)
	}
	if _, a, _ = truth.Do(s, api.Op{Kind: 3, T: 2, To: 3}, 3); a.Err != api.OK || len(a.Series) != 0 {
		t.Errorf("%v", a)
	}
}

func TestApply(t *testing.T) {
	s := run(t, truth.State{}, add(1, 1, "a", "x"), add(5, 2, "a", "x"), api.Op{Kind: 2, T: 1})
	for _, x := range []struct {
		r    api.Rec
		want string
	}{
		{api.Rec{Kind: 0, Labels: labels("a", "x"), T: 6, V: 3}, `1 {a="x"}[{1 1} {5 2} {6 3}]6`},
		{api.Rec{Kind: 0, Labels: labels("a", "w"), T: 1, To: 99, V: 3}, `1 {a="w"}[{1 3}]1 {a="x"}[{1 1} {5 2}]5`},
		{api.Rec{Kind: 0, Labels: labels("a", strings.Repeat("v", 48)), T: 1, V: 3}, `1 {a="x"}[{1 1} {5 2}]5 {a="` + strings.Repeat("v", 48) + `"}[{1 3}]1`},
		{api.Rec{Kind: 1, Labels: labels("a", "x"), T: 1, To: 4, V: 3}, `1 {a="x"}[{5 2}]5`},
		{api.Rec{Kind: 1, Labels: labels("a", "x"), T: math.MinInt64, To: math.MaxInt64}, `1 {a="x"}[]5`},
		{api.Rec{Kind: 2, T: 2, To: 5, V: 5, Labels: labels("q", "q")}, `2 {a="x"}[{5 2}]5`},
	} {
		if got, err := truth.Apply(s, x.r); err != api.OK || text(got) != x.want {
			t.Errorf("%v: %v %s", x.r, err, text(got))
		}
	}
	for _, r := range []api.Rec{
		{Kind: 0, Labels: labels("a", "x"), T: 5, V: 2}, {Kind: 0, Labels: labels("a", "x"), T: 5, V: 3}, {Kind: 0, Labels: labels("a", "x"), T: 4}, {Kind: 0, Labels: labels("a", "x"), T: 0}, {Kind: 0, Labels: labels("b", "x"), T: 0}, {Kind: 0, Labels: labels("A", "x"), T: 9}, {Kind: 0, T: 9}, {Kind: 0, Labels: labels("a", "x"), T: api.MaxTime + 1},
		{Kind: 1, Labels: labels("b", "x"), To: 9}, {Kind: 1, Labels: labels("a", "x"), T: 2, To: 4}, {Kind: 1, Labels: labels("a", "x"), T: 9, To: 0}, {Kind: 1, To: 9}, {Kind: 1, Labels: labels("a", "x", "", ""), To: 9},
		{Kind: 2, T: 1}, {Kind: 2, T: 0}, {Kind: 2, T: -1}, {Kind: 2, T: api.MaxTime + 1}, {Kind: 3, T: 9, To: 20}, {Kind: -1}, {Kind: math.MaxInt},
	} {
		if got, err := truth.Apply(s, r); err != api.ErrCorrupt || !truth.Same(got, s) {
			t.Errorf("%v: %v %s", r, err, text(got))
		}
	}
}

func TestAll(t *testing.T) {
	l := []api.Rec{{Labels: labels("a", "x"), T: 1, V: 1}, {Labels: labels("b", "x"), T: 2, V: 2}, {Kind: 1, Labels: labels("a", "x"), T: 0, To: 1}, {Kind: 1, Labels: labels("a", "x"), T: 0, To: 1}, {Kind: 2, T: 3}}
	if s, n := truth.All(truth.State{}, l); n != 3 || text(s) != `0 {a="x"}[]1 {b="x"}[{2 2}]2` {
		t.Errorf("%d %s", n, text(s))
	}
	if s, n := truth.All(truth.State{}, l[:3]); n != 3 || text(s) != `0 {a="x"}[]1 {b="x"}[{2 2}]2` {
		t.Errorf("%d %s", n, text(s))
	}
	if s, n := truth.All(truth.State{Floor: 7}, nil); n != 0 || s.Floor != 7 {
		t.Errorf("of none: %d", n)
	}
	if s, n := truth.All(truth.State{}, []api.Rec{{Kind: 5}, {Kind: 2, T: 3}}); n != 0 || s.Floor != 0 {
		t.Errorf("none could be: %d", n)
	}
}

func TestFind(t *testing.T) {
	seven := labels("a", "1", "b", "1", "c", "1", "d", "1", "e", "1", "f", "1", "g", "1")
	s := truth.State{Series: []api.Series{{Labels: labels("a", "x", "", "")}, {Labels: labels("a", "x")}, {Labels: labels("a", "x")}, {Labels: labels("b", "y")}, {Labels: append(slices.Clone(seven), api.Label{Name: "h"})}, {Labels: seven}, {}}}
	for _, x := range []struct {
		l    []api.Label
		want int
	}{{labels("a", "x"), 1}, {labels("b", "y"), 3}, {labels("a", "x", "", ""), 0}, {seven, 5}, {append(slices.Clone(seven), api.Label{Name: "h"}), 4}, {append(slices.Clone(seven), api.Label{Name: "i"}), -1}, {nil, 6}, {labels("", ""), -1}, {labels("a", "y"), -1}, {labels("a", "x", "b", "y"), -1}} {
		if at := truth.Find(s, x.l); at != x.want {
			t.Errorf("%v: %d", x.l, at)
		}
	}
	if truth.Find(truth.State{}, labels("a", "x")) != -1 {
		t.Error("of none")
	}
}

func TestFits(t *testing.T) {
	for n, first := range map[int]int{1: 1, 12: 1, 13: 2, 24: 2, 25: 3, 48: 3, 49: 4} {
		for _, l := range [][]api.Label{labels("a", strings.Repeat("v", n)), labels(strings.Repeat("n", n), "x")} {
			s := truth.State{Series: []api.Series{{Labels: labels("a", "x")}, {Labels: l}}}
			for gen := -1; gen < 6; gen++ {
				if truth.Fits(s, gen) != (gen >= first && gen <= 3) {
					t.Errorf("%d bytes, generation %d", n, gen)
				}
			}
		}
	}
	if !truth.Fits(truth.State{}, 1) || !truth.Fits(truth.State{}, 0) {
		t.Error("none")
	}
}

func TestValid(t *testing.T) {
	good := func() truth.State {
		return truth.State{Floor: 5, Series: []api.Series{{Labels: labels("a", "x"), Samples: samples(5, 1, 9, 2), Last: 9}, {Labels: labels("b", "x"), Last: 5}}}
	}
	if !truth.Valid(good()) || !truth.Valid(truth.State{}) || !truth.Valid(truth.State{Floor: api.MaxTime}) {
		t.Error("these may be")
	}
	for i, change := range []func(s *truth.State){
		func(s *truth.State) { s.Floor = -1 }, func(s *truth.State) { s.Series = nil; s.Floor = api.MaxTime + 1 }, func(s *truth.State) { s.Floor = 6 }, func(s *truth.State) { s.Series = nil; s.Floor = -1 },
		func(s *truth.State) { s.Series[0].Labels = labels("c", "x") }, func(s *truth.State) { s.Series[0].Labels = labels("b", "x") }, func(s *truth.State) { s.Series[1].Labels = nil }, func(s *truth.State) { s.Series[1].Labels = labels("B", "x") },
		func(s *truth.State) { s.Series[0].Last = 8 }, func(s *truth.State) { s.Series[0].Last = api.MaxTime + 1 }, func(s *truth.State) { s.Series[1].Last = 4 }, func(s *truth.State) { s.Series[1].Last = math.MaxInt64 }, func(s *truth.State) { s.Series[0].Last = -1 },
		func(s *truth.State) { s.Series[0].Samples = samples(5, 1, 5, 2) }, func(s *truth.State) { s.Series[0].Samples = samples(9, 1, 5, 2) }, func(s *truth.State) { s.Series[0].Samples = samples(4, 1, 9, 2) },
		func(s *truth.State) {
			s.Series[0].Samples, s.Series[0].Last = nil, 300
			for i := range 201 {
				s.Series[0].Samples = append(s.Series[0].Samples, api.Sample{T: int64(i + 5)})
			}
		},
		func(s *truth.State) {
			s.Series = nil
			for i := range 21 {
				s.Series = append(s.Series, api.Series{Labels: labels("a", fmt.Sprintf("%02d", i)), Last: 5})
			}
		},
	} {
		s := good()
		change(&s)
		if truth.Valid(s) {
			t.Errorf("%d: %s", i, text(s))
		}
		if i > 0 && truth.Same(s, good()) {
			t.Errorf("%d: the same", i)
		}
	}
	s := good()
	s.Series[0].Last, s.Series[0].Samples = api.MaxTime, nil
	for i := range 200 {
		s.Series[0].Samples = append(s.Series[0].Samples, api.Sample{T: int64(i + 5)})
	}
	if !truth.Valid(s) {
		t.Error("200 samples may be")
	}
	s.Series = nil
	for i := range 20 {
		s.Series = append(s.Series, api.Series{Labels: labels("a", fmt.Sprintf("%02d", i)), Last: 5})
	}
	if !truth.Valid(s) {
		t.Error("20 series may be")
	}
}

func TestSame(t *testing.T) {
	a := func() truth.State {
		return truth.State{Floor: 1, Series: []api.Series{{Labels: labels("a", "x"), Samples: samples(5, 1, 9, 2), Last: 9}}}
	}
	if !truth.Same(a(), a()) || !truth.Same(truth.State{}, truth.State{Series: []api.Series{}}) || !truth.Same(truth.State{Series: []api.Series{{Samples: []api.Sample{}}}}, truth.State{Series: []api.Series{{}}}) {
		t.Error("alike")
	}
	for i, change := range []func(s *truth.State){
		func(s *truth.State) { s.Floor = 2 }, func(s *truth.State) { s.Series = nil }, func(s *truth.State) { s.Series = append(s.Series, api.Series{}) }, func(s *truth.State) { s.Series[0].Last = 10 },
		func(s *truth.State) { s.Series[0].Labels[0].Value = "y" }, func(s *truth.State) { s.Series[0].Samples[1].V = 3 }, func(s *truth.State) { s.Series[0].Samples[0].T = 4 }, func(s *truth.State) { s.Series[0].Samples = s.Series[0].Samples[:1] },
	} {
		b := a()
		change(&b)
		if truth.Same(a(), b) || truth.Same(b, a()) {
			t.Errorf("%d", i)
		}
	}
}

// someOp is an operation that often does something.
func someOp(r *rand.Rand, now int64) api.Op {
	l := labels("a", fmt.Sprint(r.Intn(5)))
	m := []api.Matcher{{Kind: r.Intn(2), Name: "a", Value: fmt.Sprint(r.Intn(6))}}
	switch r.Intn(12) {
	case 0, 1:
		from := r.Int63n(now + 5)
		return api.Op{Kind: 1, Matchers: m, T: from, To: from + r.Int63n(9) - 1}
	case 2:
		return api.Op{Kind: 2, T: r.Int63n(now + 3)}
	case 3:
		return api.Op{Kind: 3, Matchers: m, To: r.Int63n(now + 5)}
	}
	return api.Op{Labels: l, T: now - r.Int63n(3), V: uint64(r.Intn(3))}
}

// What the changes tell is the state; each state may be; no call changes an argument.
func TestChangesTellTheState(t *testing.T) {
	r := rand.New(rand.NewSource(1))
	for range 60 {
		var s truth.State
		var all []api.Rec
		for now := range int64(200) {
			o := someOp(r, now+3)
			was := text(s)
			next, a, l := truth.Do(s, o, 1+r.Intn(3))
			if text(s) != was {
				t.Fatalf("%v changed its argument", o)
			}
			if a.Err != api.OK && (len(l) > 0 || text(next) != was) || len(l) == 0 && text(next) != was {
				t.Fatalf("%v: %v %v %s", o, a, l, text(next))
			}
			one := s
			for _, x := range l {
				var err api.Errno
				if one, err = truth.Apply(one, x); err != api.OK {
					t.Fatalf("%v: %v", x, err)
				}
			}
			if !truth.Same(one, next) || !truth.Valid(next) {
				t.Fatalf("%v: %s, not %s", o, text(one), text(next))
			}
			all = append(all, l...)
			s = next
		}
		if got, n := truth.All(truth.State{}, all); n != len(all) || !truth.Same(got, s) {
			t.Fatalf("%d of %d: %s, not %s", n, len(all), text(got), text(s))
		}
	}
}

// spoil writes on all that is in a state.
func spoil(s truth.State) {
	for i := range s.Series {
		for j := range s.Series[i].Labels {
			s.Series[i].Labels[j].Value = "spoilt"
		}
		for j := range s.Series[i].Samples {
			s.Series[i].Samples[j].V = 666
		}
		s.Series[i].Last = 666
	}
}

func TestAnswersShareNothing(t *testing.T) {
	s := run(t, truth.State{}, add(1, 1, "a", "x"), add(5, 2, "a", "x"), add(4, 3, "b", "x"))
	was := text(s)
	for _, o := range []api.Op{add(6, 1, "a", "x"), add(6, 1, "c", "x"), add(5, 2, "a", "x"), add(0, 2, "a", "x"), {Kind: 1, To: 2}, {Kind: 2, T: 3}, {Kind: 3, To: 100}, {Kind: 7}} {
		got, a, l := truth.Do(s, o, 3)
		after := text(got)
		spoil(truth.State{Series: a.Series})
		for i := range l {
			for j := range l[i].Labels {
				l[i].Labels[j].Value = "spoilt"
			}
		}
		if o.Labels != nil && o.Labels[0].Value != "x" || text(got) != after || text(s) != was {
			t.Errorf("%v: what is told shares", o)
		}
		spoil(got)
		if o.Labels != nil && o.Labels[0].Value != "x" || text(s) != was {
			t.Errorf("%v: the state shares", o)
		}
	}
	r := api.Rec{Labels: labels("c", "x"), T: 9}
	got, _ := truth.Apply(s, r)
	spoil(got)
	none, _ := truth.Apply(s, api.Rec{Kind: 9})
	spoil(none)
	all, _ := truth.All(s, []api.Rec{r})
	spoil(all)
	if text(s) != was || r.Labels[0].Value != "x" {
		t.Error("a change shares")
	}
}

// Arguments may be anything: calls end, and do not panic.
func TestAnyState(t *testing.T) {
	odd := []truth.State{
		{Floor: -5, Series: []api.Series{{}, {Labels: labels("", "", "", "")}, {Labels: labels("a", "x"), Samples: samples(9, 1, 3, 1), Last: -7}, {Labels: labels("a", "x")}}},
		{Floor: math.MinInt64, Series: make([]api.Series, 50)},
		{Floor: math.MaxInt64, Series: []api.Series{{Labels: labels("a", "x"), Samples: make([]api.Sample, 500), Last: math.MaxInt64}}},
	}
	for i, s := range odd {
		for _, o := range []api.Op{add(9, 1, "a", "x"), add(0, 1, "b", "x"), {Kind: 1, T: math.MinInt64, To: math.MaxInt64}, {Kind: 2, T: 0}, {Kind: 2, T: api.MaxTime}, {Kind: 3, T: math.MinInt64, To: math.MaxInt64}} {
			_, a, l := truth.Do(s, o, 3)
			if a.Err != api.OK && len(l) > 0 {
				t.Errorf("%d %v: %v", i, o, a)
			}
		}
		if truth.Valid(s) || !truth.Same(s, s) {
			t.Errorf("%d may not be, and is itself", i)
		}
		truth.Apply(s, api.Rec{Kind: 1, Labels: labels("a", "x"), To: 9})
		truth.Find(s, nil)
	}
	early := truth.State{Series: []api.Series{{Labels: labels("a", "x"), Samples: samples(3, 1, 9, 1), Last: -7}}}
	if s, a, _ := truth.Do(early, api.Op{Kind: 2, T: 5}, 3); a.N != 1 || text(s) != `5 {a="x"}[{9 1}]-7` {
		t.Errorf("a series that has a sample stays: %s", text(s))
	}
}
