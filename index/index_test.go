package index_test

import (
	"fmt"
	"math"
	"math/rand"
	"slices"
	"strings"
	"testing"

	"alluvium/api"
	"alluvium/crc"
	"alluvium/index"
	"alluvium/label"
	"alluvium/match"
	"alluvium/num"
)

func labels(l ...string) []api.Label {
	var out []api.Label
	for i := 0; i < len(l); i += 2 {
		out = append(out, api.Label{Name: l[i], Value: l[i+1]})
	}
	return out
}

func checked(s string) string { return s + crc.Tail(s) }

// l are entries whose chunks are one behind the other, but for the last one.
func entries() []index.Entry {
	return []index.Entry{{Labels: labels("a", "x"), Last: 300, Off: 0, Len: 10}, {Labels: labels("a", "xyz", "b", "x"), Last: 290, Off: 10, Len: 130}, {Labels: labels("b", "x"), Last: 290, Off: 5, Len: 0}}
}

func TestExample(t *testing.T) {
	if s, err := index.Put(nil, 2); s != checked("\x00\x00") || err != api.OK {
		t.Errorf("%q %v", s, err)
	}
}

func TestBytes(t *testing.T) {
	fix := func(s string) string { return s + strings.Repeat("\x00", 12-len(s)) + string([]byte{byte(len(s))}) }
	one := num.Wide(3) + "\x01" + fix("a") + fix("x") + num.Wide(300) + num.Wide(0) + num.Wide(10) + "\x02" + fix("a") + fix("xyz") + fix("b") + fix("x") + num.Wide(290) + num.Wide(10) + num.Wide(130) + "\x01" + fix("b") + fix("x") + num.Wide(290) + num.Wide(5) + num.Wide(0)
	two := "\x04" + "\x01a\x01b\x01x\x03xyz" + "\x03" + "\x01\x00\x02\xac\x02\x00\x0a" + "\x02\x00\x03\x01\x02\xa2\x02\x0a\x82\x01" + "\x01\x01\x02\xa2\x02\x05\x00"
	three := "\x04" + "\x00\x01a\x00\x01b\x00\x01x\x01\x02yz" + "\x03" + "\x01\x00\x02\xd8\x04\x00\x0a" + "\x02\x00\x03\x01\x02\x13\x00\x82\x01" + "\x01\x01\x02\x00\x8d\x02\x00" + "\x01\x00" + "\x01\x01" + "\x02\x01\x01"
	for i, want := range []string{one, two, three} {
		s, err := index.Put(entries(), i+1)
		if s != checked(want) || err != api.OK {
			t.Errorf("%d: %q, not %q; %v", i+1, s, want, err)
		}
		if l, err := index.Get(checked(want), i+1); err != api.OK || !index.Same(l, entries()) {
			t.Errorf("%d: %v %v", i+1, l, err)
		}
	}
	for i, want := range []string{num.Wide(0), "\x00\x00", "\x00\x00"} {
		if s, err := index.Put(nil, i+1); s != checked(want) || err != api.OK {
			t.Errorf("none in %d: %q", i+1, s)
		}
		if l, err := index.Get(checked(want), i+1); len(l) != 0 || err != api.OK {
			t.Errorf("none in %d: %v", i+1, err)
		}
	}
}

func TestValid(t *testing.T) {
	many := func(n int) []index.Entry {
		var l []index.Entry
		for i := range n {
			l = append(l, index.Entry{Labels: labels("a", fmt.Sprintf("%02d", i))})
		}
		return l
	}
	one := func(e index.Entry) []index.Entry { return []index.Entry{{Labels: labels("a", "a")}, e} }
	a := labels("b", "x")
	for _, l := range [][]index.Entry{nil, entries(), many(20), one(index.Entry{Labels: a, Last: api.MaxTime, Off: 1 << 30, Len: 1 << 30})} {
		for gen := 1; gen <= 3; gen++ {
			if err := index.Valid(l, gen); err != api.OK {
				t.Errorf("%v in %d: %v", l, gen, err)
			}
			s, err := index.Put(l, gen)
			if got, also := index.Get(s, gen); err != api.OK || also != api.OK || !index.Same(got, l) {
				t.Errorf("%v in %d: %v %v", l, gen, err, also)
			}
		}
		for _, gen := range []int{0, 4, -1, math.MaxInt, math.MinInt} {
			if err := index.Valid(l, gen); err != api.ErrArg {
				t.Errorf("in %d: %v", gen, err)
			}
			if s, err := index.Put(l, gen); s != "" || err != api.ErrArg {
				t.Errorf("in %d: %v", gen, err)
			}
			if got, err := index.Get(checked("\x00\x00"), gen); len(got) != 0 || err != api.ErrArg {
				t.Errorf("in %d: %v", gen, err)
			}
		}
	}
	for i, l := range [][]index.Entry{
		many(21), one(index.Entry{}), one(index.Entry{Labels: labels("a", "a")}), one(index.Entry{Labels: labels("a", "Z")}), one(index.Entry{Labels: labels("A", "x")}),
		one(index.Entry{Labels: a, Last: -1}), one(index.Entry{Labels: a, Last: api.MaxTime + 1}), one(index.Entry{Labels: a, Off: -1}), one(index.Entry{Labels: a, Off: 1<<30 + 1}), one(index.Entry{Labels: a, Len: -1}), one(index.Entry{Labels: a, Len: 1<<30 + 1}), one(index.Entry{Labels: a, Len: math.MinInt, Off: math.MaxInt}),
		append([]index.Entry{{Labels: labels("a", strings.Repeat("v", 48))}}, one(index.Entry{Labels: a, Last: -1})...),
	} {
		for gen := 1; gen <= 3; gen++ {
			if err := index.Valid(l, gen); err != api.ErrArg {
				t.Errorf("%d in %d: %v", i, gen, err)
			}
			if s, err := index.Put(l, gen); s != "" || err != api.ErrArg {
				t.Errorf("%d in %d: %v", i, gen, err)
			}
		}
	}
	for n, first := range map[int]int{12: 1, 13: 2, 24: 2, 25: 3, 48: 3} {
		for gen := 1; gen <= 3; gen++ {
			want := api.ErrLong
			if gen >= first {
				want = api.OK
			}
			l := one(index.Entry{Labels: labels(strings.Repeat("b", n), "x")})
			if _, err := index.Put(l, gen); err != want || index.Valid(l, gen) != want {
				t.Errorf("%d bytes in %d: %v", n, gen, err)
			}
		}
	}
}

func TestAsked(t *testing.T) {
	l := entries()
	if got := index.Symbols(l); !slices.Equal(got, []string{"a", "b", "x", "xyz"}) {
		t.Errorf("%q", got)
	}
	if got := index.Symbols([]index.Entry{{Labels: labels("b", "a", "", "\xff")}, {}, {Labels: labels("b", "B")}}); !slices.Equal(got, []string{"", "B", "a", "b", "\xff"}) {
		t.Errorf("%q", got)
	}
	if len(index.Symbols(nil)) != 0 || len(index.Postings(nil, api.Label{})) != 0 || len(index.Ask(nil, nil)) != 0 {
		t.Error("of none")
	}
	for x, want := range map[api.Label][]int{{Name: "a", Value: "x"}: {0}, {Name: "b", Value: "x"}: {1, 2}, {Name: "a", Value: ""}: nil, {Name: "x", Value: "a"}: nil} {
		if got := index.Postings(l, x); !slices.Equal(got, want) {
			t.Errorf("%v: %v", x, got)
		}
	}
	if got := index.Postings([]index.Entry{{Labels: labels("a", "x", "a", "x")}, {}, {Labels: labels("b", "y", "a", "x")}}, api.Label{Name: "a", Value: "x"}); !slices.Equal(got, []int{0, 2}) {
		t.Errorf("%v", got)
	}
	for _, x := range []struct {
		m    []api.Matcher
		want []int
	}{{nil, []int{0, 1, 2}}, {[]api.Matcher{{Kind: 2, Name: "a", Value: "x"}}, []int{0, 1}}, {[]api.Matcher{{Kind: 0, Name: "a"}}, []int{2}}, {[]api.Matcher{{Kind: 3, Name: "b"}, {Kind: 1, Name: "a", Value: ""}}, []int{1}}, {[]api.Matcher{{Kind: 7}}, nil}} {
		if got := index.Ask(l, x.m); !slices.Equal(got, x.want) {
			t.Errorf("%v: %v", x.m, got)
		}
	}
}

func TestSame(t *testing.T) {
	for i, change := range []func(l []index.Entry) []index.Entry{
		func(l []index.Entry) []index.Entry { l[1].Last++; return l }, func(l []index.Entry) []index.Entry { l[1].Off++; return l }, func(l []index.Entry) []index.Entry { l[1].Len++; return l }, func(l []index.Entry) []index.Entry { l[1].Labels[1].Value = "z"; return l }, func(l []index.Entry) []index.Entry { return l[:2] }, func(l []index.Entry) []index.Entry { return append(l, index.Entry{}) },
	} {
		b := change(entries())
		if index.Same(entries(), b) || index.Same(b, entries()) || !index.Same(b, b) {
			t.Errorf("%d", i)
		}
	}
	if !index.Same(nil, []index.Entry{}) {
		t.Error("none")
	}
}

func some(r *rand.Rand) []index.Entry {
	byKey := map[string]index.Entry{}
	var keys []string
	for range r.Intn(21) {
		l := labels("a", strings.Repeat("v", r.Intn(5))+fmt.Sprint(r.Intn(9)))
		if r.Intn(2) == 0 {
			l = append(l, api.Label{Name: "b" + strings.Repeat("_", r.Intn(3)), Value: fmt.Sprint(r.Intn(3))})
		}
		k := label.Key(l)
		if _, ok := byKey[k]; !ok {
			keys = append(keys, k)
		}
		byKey[k] = index.Entry{Labels: l, Last: r.Int63n(api.MaxTime + 1), Off: r.Intn(1<<30 + 1), Len: r.Intn(1<<30 + 1)}
	}
	slices.Sort(keys)
	var l []index.Entry
	at := 0
	for _, k := range keys {
		e := byKey[k]
		if r.Intn(3) > 0 {
			e.Off, e.Len = at, r.Intn(1000)
			at += e.Len
		}
		l = append(l, e)
	}
	return l
}

func TestWhatIsPutIsGot(t *testing.T) {
	r := rand.New(rand.NewSource(1))
	for range 600 {
		l, gen := some(r), 1+r.Intn(3)
		s, err := index.Put(l, gen)
		if err != api.OK {
			t.Fatal(err)
		}
		got, err := index.Get(s, gen)
		if err != api.OK || !index.Same(got, l) {
			t.Fatalf("%d: %v, not %v", gen, got, l)
		}
		for _, e := range l {
			for _, x := range e.Labels { // who is asked for by postings is who fits
				if !slices.Equal(index.Postings(l, x), index.Ask(l, []api.Matcher{{Name: x.Name, Value: x.Value}})) {
					t.Fatalf("%v", x)
				}
			}
		}
		m := []api.Matcher{{Kind: r.Intn(4), Name: "b", Value: ""}}
		for i, e := range l {
			if slices.Contains(index.Ask(l, m), i) != match.All(m, e.Labels) {
				t.Fatalf("%v %v", m, e)
			}
		}
		b := []byte(s[:len(s)-4])
		b[r.Intn(len(b))] ^= byte(1 << r.Intn(8))
		if got, err := index.Get(checked(string(b)), gen); err == api.OK {
			if again, _ := index.Put(got, gen); again != checked(string(b)) {
				t.Fatalf("%d: %q: %v", gen, b, got)
			}
		} else if err != api.ErrCorrupt || len(got) != 0 {
			t.Fatalf("%v", err)
		}
	}
}

// There may be 240 symbols: of 20 series, of 6 labels each.
func TestManySymbols(t *testing.T) {
	var l []index.Entry
	for i := range 20 {
		var x []string
		for j := range 6 {
			x = append(x, fmt.Sprintf("n%c%c", 'a'+i, 'a'+j), fmt.Sprintf("v%02d%d", i, j))
		}
		l = append(l, index.Entry{Labels: labels(x...), Last: int64(i)})
	}
	if n := len(index.Symbols(l)); n != 240 {
		t.Fatalf("%d symbols", n)
	}
	for gen := 1; gen <= 3; gen++ {
		s, err := index.Put(l, gen)
		if got, also := index.Get(s, gen); err != api.OK || also != api.OK || !index.Same(got, l) {
			t.Errorf("%d: %v %v", gen, err, also)
		}
	}
}

func TestCorrupt(t *testing.T) {
	w := num.Wide
	fix := func(s string) string { return s + strings.Repeat("\x00", 12-len(s)) + string([]byte{byte(len(s))}) }
	for gen, l := range map[int][]string{
		1: {"", w(1), w(21), w(math.MaxUint64), w(0) + "x", w(1) + "\x00" + w(1) + w(1) + w(1), w(1) + "\x01" + fix("A") + fix("x") + w(1) + w(1) + w(1), w(1) + "\x01" + fix("a") + fix("x") + w(1) + w(1), w(1) + "\x01" + fix("a") + fix("x") + w(1) + w(1) + w(1<<30+1), w(1) + "\x01" + fix("a") + fix("x") + w(1<<63) + w(1) + w(1), w(1) + "\xff" + fix("a") + fix("x") + w(1) + w(1) + w(1)},
		2: {"", "\x00", "\x80\x00\x00", "\x00\x00x", "\x01\x01a\x00", "\x02\x01x\x01a\x01\x01\x01\x00\x05\x00\x00", "\x02\x01a\x01x\x01\x01\x00\x02\x05\x00\x00", "\x02\x01a\x01x\x01\x01\x00\x01\x05\x00", "\x02\x01a\x01x\x01\x07\x00\x01\x05\x00\x00", "\x03\x01a\x01b\x01x\x01\x01\x00\x02\x05\x00\x00", "\x02\x01a\x01x\x15", num.Small(math.MaxUint64), "\x00" + num.Small(math.MaxUint64), "\x02\x01a\x01x\x01\x01\x00" + num.Small(math.MaxUint64) + "\x05\x00\x00", "\x02\x01a\x01x\x01\x01\x00\x01\x05" + num.Small(math.MaxUint64) + "\x00"},
		3: {"", "\x00", "\x00\x00x", "\x02\x00\x01a\x00\x01x\x01\x01\x00\x01\x0a\x00\x00", "\x02\x00\x01a\x00\x01x\x01\x01\x00\x01\x0a\x00\x00\x01", "\x02\x00\x01a\x00\x01x\x01\x01\x00\x01\x0a\x00\x00\x01\x01", "\x02\x00\x01a\x00\x01x\x01\x01\x00\x01\x0a\x00\x00\x01\x00\x00", "\x02\x01\x01a\x00\x01x\x01\x01\x00\x01\x0a\x00\x00\x01\x00", "\x02\x00\x01a\x00\x02ax\x01\x01\x00\x01\x0a\x00\x00\x01\x00", "\x02\x00\x01a\x00\x01x\x01\x01\x00\x01\x09\x00\x00\x01\x00", "\x02\x00\x01a\x00\x01x\x01\x01\x00\x01\x0a\x01\x00\x01\x00", "\x01" + num.Small(math.MaxUint64) + "\x01a\x00", "\x02\x00\x01a\x00\x01x\x01\x01\x00\x01\x0a\x00" + num.Small(math.MaxUint64) + "\x01\x00"},
	} {
		for _, s := range l {
			if got, err := index.Get(checked(s), gen); len(got) != 0 || err != api.ErrCorrupt {
				t.Errorf("%d: %q: %v %v", gen, s, got, err)
			}
		}
		s, _ := index.Put(entries(), gen)
		for i := range s {
			b := []byte(s)
			b[i] ^= 1
			if got, err := index.Get(string(b), gen); len(got) != 0 || err != api.ErrCorrupt {
				t.Errorf("%d: %q: %v", gen, b, got)
			}
			if got, err := index.Get(s[:i], gen); len(got) != 0 || err != api.ErrCorrupt {
				t.Errorf("%d: %q: %v", gen, s[:i], got)
			}
		}
	}
	if l, err := index.Get(checked("\x02\x00\x01a\x00\x01x\x01\x01\x00\x01\x0a\x00\x00\x01\x00"), 3); err != api.OK || len(l) != 1 {
		t.Errorf("%v %v", l, err)
	}
}
