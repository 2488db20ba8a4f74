package match_test

import (
	"math"
	"math/rand"
	"slices"
	"strings"
	"testing"

	"alluvium/api"
	"alluvium/match"
)

func labels(l ...string) []api.Label {
	var out []api.Label
	for i := 0; i < len(l); i += 2 {
		out = append(out, api.Label{Name: l[i], Value: l[i+1]})
	}
	return out
}

func TestExample(t *testing.T) {
	if !match.Fits(api.Matcher{Name: "b"}, labels("a", "x")) {
		t.Error("Kind 0 of b, and an empty value")
	}
}

func TestCheck(t *testing.T) {
	long := strings.Repeat("n", 48)
	good := []api.Matcher{{Kind: 0, Name: "a", Value: "x"}, {Kind: 1, Name: "_0", Value: ""}, {Kind: 2, Name: long, Value: strings.Repeat("~ ", 24)}, {Kind: 3, Name: "a"}, {Kind: 0, Name: "a"}, {Kind: 2, Name: "a"}}
	if match.Check(nil) != api.OK || match.Check(good) != api.OK {
		t.Error("these may be")
	}
	for _, m := range good {
		eight := slices.Repeat([]api.Matcher{m}, 8)
		if match.Check(eight) != api.OK || match.Check(append(eight, m)) != api.ErrArg {
			t.Errorf("eight, and nine, of %v", m)
		}
	}
	for _, m := range []api.Matcher{
		{Kind: -1, Name: "a"}, {Kind: 4, Name: "a"}, {Kind: math.MaxInt, Name: "a"}, {Kind: math.MinInt, Name: "a"}, {Kind: 3, Name: "a", Value: "x"}, {Kind: 0, Name: ""}, {Kind: 0, Name: "A"}, {Kind: 1, Name: "0"}, {Kind: 3, Name: "a b"},
		{Kind: 0, Name: long + "n"}, {Kind: 0, Name: "a", Value: strings.Repeat("v", 49)}, {Kind: 2, Name: "a", Value: "\x1f"}, {Kind: 1, Name: "a", Value: "\x7f"},
	} {
		if match.Check([]api.Matcher{m}) != api.ErrArg || match.Check([]api.Matcher{good[0], m}) != api.ErrArg {
			t.Errorf("%v may not be", m)
		}
	}
}

func TestFits(t *testing.T) {
	l := labels("a", "xyz", "b", "y", "e", "")
	for _, x := range []struct {
		kind int
		n, v string
		want bool
	}{
		{0, "a", "xyz", true}, {0, "a", "xy", false}, {0, "a", "", false}, {0, "c", "", true}, {0, "c", "x", false},
		{1, "a", "xyz", false}, {1, "a", "xy", true}, {1, "c", "", false}, {1, "c", "x", true}, {1, "a", "", true},
		{2, "a", "", true}, {2, "a", "x", true}, {2, "a", "xyz", true}, {2, "a", "xyzz", false}, {2, "a", "y", false}, {2, "c", "", true}, {2, "c", "x", false},
		{3, "a", "", true}, {3, "b", "", true}, {3, "c", "", false}, {3, "e", "", true}, {3, "a", "other", true}, {3, "", "", false},
		{4, "a", "xyz", false}, {-1, "a", "xyz", false}, {math.MaxInt, "c", "", false},
	} {
		m := api.Matcher{Kind: x.kind, Name: x.n, Value: x.v}
		if match.Fits(m, l) != x.want || match.All([]api.Matcher{m}, l) != x.want {
			t.Errorf("%v", m)
		}
	}
	if match.Fits(api.Matcher{Kind: 0, Name: "a", Value: "2"}, labels("a", "1", "a", "2")) {
		t.Error("the first label of a name tells")
	}
}

func TestAll(t *testing.T) {
	a, b, no := api.Matcher{Name: "a", Value: "x"}, api.Matcher{Kind: 3, Name: "b"}, api.Matcher{Kind: 1, Name: "a", Value: "x"}
	l := labels("a", "x", "b", "y")
	for _, x := range []struct {
		m    []api.Matcher
		want bool
	}{{nil, true}, {[]api.Matcher{a}, true}, {[]api.Matcher{a, b}, true}, {[]api.Matcher{a, no}, false}, {[]api.Matcher{no, b}, false}, {slices.Repeat([]api.Matcher{a}, 20), true}, {append(slices.Repeat([]api.Matcher{a}, 20), no), false}} {
		if match.All(x.m, l) != x.want {
			t.Errorf("%v", x.m)
		}
	}
	if !match.All(nil, nil) {
		t.Error("of none, none")
	}
}

func TestSelect(t *testing.T) {
	l := [][]api.Label{labels("a", "x"), labels("a", "y"), nil, labels("a", "x", "b", "1"), labels("b", "1")}
	for _, x := range []struct {
		m    []api.Matcher
		want []int
	}{
		{nil, []int{0, 1, 2, 3, 4}}, {[]api.Matcher{{Name: "a", Value: "x"}}, []int{0, 3}}, {[]api.Matcher{{Kind: 1, Name: "a", Value: "x"}}, []int{1, 2, 4}}, {[]api.Matcher{{Kind: 3, Name: "b"}}, []int{3, 4}},
		{[]api.Matcher{{Name: "a", Value: "x"}, {Name: "b"}}, []int{0}}, {[]api.Matcher{{Kind: 9}}, nil},
	} {
		if got := match.Select(x.m, l); !slices.Equal(got, x.want) {
			t.Errorf("%v: %v", x.m, got)
		}
	}
	if got := match.Select(nil, nil); len(got) != 0 {
		t.Error("of none")
	}
}

func TestNot(t *testing.T) {
	for kind := -2; kind < 6; kind++ {
		m := api.Matcher{Kind: kind, Name: "a", Value: "x"}
		n, ok := match.Not(m)
		if kind != 0 && kind != 1 {
			if ok || n != m {
				t.Errorf("%d: %v", kind, n)
			}
			continue
		}
		if !ok || n != (api.Matcher{Kind: 1 - kind, Name: "a", Value: "x"}) {
			t.Errorf("%d: %v", kind, n)
		}
		for _, l := range [][]api.Label{nil, labels("a", "x"), labels("a", "y"), labels("b", "x")} {
			if match.Fits(m, l) == match.Fits(n, l) {
				t.Errorf("%v: both or none fit %v", m, l)
			}
		}
	}
}

func samples(ts ...int64) []api.Sample {
	var l []api.Sample
	for i, t := range ts {
		l = append(l, api.Sample{T: t, V: uint64(i)})
	}
	return l
}

func TestBetweenAndWithout(t *testing.T) {
	l := samples(5, 1, 3, math.MinInt64, math.MaxInt64, 3)
	for _, x := range []struct {
		from, to int64
		in       []int
	}{{1, 3, []int{1, 2, 5}}, {3, 3, []int{2, 5}}, {4, 3, nil}, {math.MinInt64, math.MaxInt64, []int{0, 1, 2, 3, 4, 5}}, {math.MaxInt64, math.MinInt64, nil}, {6, 100, nil}, {5, math.MaxInt64, []int{0, 4}}} {
		var in, out []api.Sample
		for i, s := range l {
			if slices.Contains(x.in, i) {
				in = append(in, s)
			} else {
				out = append(out, s)
			}
		}
		if got := match.Between(l, x.from, x.to); !slices.Equal(got, in) {
			t.Errorf("from %d to %d: %v", x.from, x.to, got)
		}
		if got := match.Without(l, x.from, x.to); !slices.Equal(got, out) {
			t.Errorf("not from %d to %d: %v", x.from, x.to, got)
		}
	}
}

// What is asked for, and all else, is all; and it is new memory.
func TestAllIsTold(t *testing.T) {
	r := rand.New(rand.NewSource(1))
	for range 500 {
		var l []api.Sample
		for range r.Intn(20) {
			l = append(l, api.Sample{T: r.Int63n(20), V: r.Uint64()})
		}
		was := slices.Clone(l)
		from, to := r.Int63n(20), r.Int63n(20)
		in, out := match.Between(l, from, to), match.Without(l, from, to)
		if len(in)+len(out) != len(l) {
			t.Fatalf("%v from %d to %d: %v %v", l, from, to, in, out)
		}
		for i := range in {
			in[i].V = 0
		}
		for i := range out {
			out[i].T = -1
		}
		if !slices.Equal(l, was) {
			t.Fatal("an answer shares with an argument")
		}
	}
}

func TestSorted(t *testing.T) {
	for _, l := range [][]api.Sample{nil, samples(5), samples(-1, 0, 1), samples(math.MinInt64, math.MaxInt64)} {
		if !match.Sorted(l) {
			t.Errorf("%v", l)
		}
	}
	for _, l := range [][]api.Sample{samples(1, 1), samples(2, 1), samples(1, 2, 2), samples(1, 3, 2, 4), samples(math.MaxInt64, math.MinInt64)} {
		if match.Sorted(l) {
			t.Errorf("%v", l)
		}
	}
}
