package label_test

import (
	"math"
	"math/rand"
	"sort"
	"strings"
	"testing"

	"alluvium/api"
	"alluvium/label"
)

// labels are names and values, one behind the other.
func labels(l ...string) []api.Label {
	var out []api.Label
	for i := 0; i < len(l); i += 2 {
		out = append(out, api.Label{Name: l[i], Value: l[i+1]})
	}
	return out
}

func TestExample(t *testing.T) {
	l := labels("a", "x", "b", "y")
	if s := label.Show(l); s != `{a="x",b="y"}` {
		t.Error(s)
	}
	if k := label.Key(l); k != "\x01a\x01x\x01b\x01y" {
		t.Errorf("%q", k)
	}
}

func TestCheck(t *testing.T) {
	long := strings.Repeat("n", 48)
	for _, l := range [][]api.Label{
		labels("a", "x"), labels("_", " "), labels("z_9", "~"), labels("_a0", "\"\\{},="), labels(long, strings.Repeat("~", 48)),
		labels("a", "1", "b", "1", "c", "1", "d", "1", "e", "1", "f", "1"), labels("_", "1", "a", "1", "a0", "1", "a_", "1", "aa", "1"),
	} {
		if label.Check(l) != api.OK {
			t.Errorf("%v may be", l)
		}
	}
	for _, l := range [][]api.Label{
		nil, {}, labels("", "x"), labels("a", ""), labels("0", "x"), labels("9a", "x"), labels("A", "x"), labels("a-b", "x"), labels("aB", "x"), labels("a ", "x"), labels("\xe4", "x"), labels("a\x00", "x"),
		labels("`", "x"), labels("a{", "x"), labels("a/", "x"), labels("a:", "x"), labels("a@", "x"), labels("a[", "x"), labels("a^", "x"),
		labels("a", "\x1f"), labels("a", "x\x7f"), labels("a", "\xff"), labels("a", "x\n"), labels("a", "\x00"),
		labels(long+"n", "x"), labels("a", strings.Repeat("v", 49)), labels("a", "x", "a", "x"), labels("a", "x", "a", "y"), labels("b", "x", "a", "x"), labels("a", "1", "b", "1", "aa", "1"),
		labels("a", "1", "b", "1", "c", "1", "d", "1", "e", "1", "f", "1", "g", "1"), labels("a", "x", "b", ""), labels("a", "x", "", "x"),
	} {
		if label.Check(l) != api.ErrLabel {
			t.Errorf("%v may not be", l)
		}
	}
	for b := range 256 {
		c := byte(b)
		letter := c == '_' || c >= 'a' && c <= 'z'
		digit := c >= '0' && c <= '9'
		if (label.Check(labels(string([]byte{c}), "x")) == api.OK) != letter {
			t.Errorf("%q begins a name", c)
		}
		if (label.Check(labels("a"+string([]byte{c}), "x")) == api.OK) != (letter || digit) {
			t.Errorf("%q in a name", c)
		}
		if (label.Check(labels("a", string([]byte{c}))) == api.OK) != (c >= 32 && c <= 126) {
			t.Errorf("%q in a value", c)
		}
	}
}

func TestLimit(t *testing.T) {
	for gen, want := range map[int]int{1: 12, 2: 24, 3: 48, 0: 0, 4: 0, -1: 0, math.MaxInt: 0, math.MinInt: 0} {
		if n := label.Limit(gen); n != want {
			t.Errorf("%d: %d", gen, n)
		}
	}
}

func TestLongest(t *testing.T) {
	for _, x := range []struct {
		l    []api.Label
		want int
	}{{nil, 0}, {labels("", ""), 0}, {labels("a", "xyz"), 3}, {labels("abcd", "xyz"), 4}, {labels("a", "x", "bb", "y"), 2}, {labels("aaa", "x", "b", strings.Repeat("y", 100)), 100}} {
		if n := label.Longest(x.l); n != x.want {
			t.Errorf("%v: %d", x.l, n)
		}
	}
}

func some(r *rand.Rand) []api.Label {
	var names []string
	for range 1 + r.Intn(6) {
		n := string("abc_"[r.Intn(4)])
		for range r.Intn(4) {
			n += string("ab_09"[r.Intn(5)])
		}
		names = append(names, n)
	}
	sort.Strings(names)
	var l []api.Label
	for i, n := range names {
		if i > 0 && names[i-1] == n {
			continue
		}
		v := ""
		for range 1 + r.Intn(5) {
			v += string(`x"\,={} ~`[r.Intn(9)])
		}
		l = append(l, api.Label{Name: n, Value: v})
	}
	return l
}

func TestKeyTellsLabels(t *testing.T) {
	r := rand.New(rand.NewSource(1))
	var seen = map[string][]api.Label{}
	for range 3000 {
		l := some(r)
		k := label.Key(l)
		if got, ok := label.Of(k); !ok || !label.Same(got, l) {
			t.Fatalf("%v: %v", l, got)
		}
		if was, ok := seen[k]; ok && !label.Same(was, l) {
			t.Fatalf("%v, %v: one key", l, was)
		}
		seen[k] = l
		b := []byte(k)
		b[r.Intn(len(b))] ^= byte(1 << r.Intn(8))
		if got, ok := label.Of(string(b)); ok && label.Key(got) != string(b) || !ok && len(got) > 0 {
			t.Fatalf("%q: %v", b, got)
		}
		if got, ok := label.Of(k + "\x00"); ok || len(got) > 0 {
			t.Fatalf("%q and more: %v", k, got)
		}
	}
}

func TestOf(t *testing.T) {
	long := strings.Repeat("n", 49)
	for _, k := range []string{"", "\x01", "\x01a", "\x01a\x01", "\x01a\x00", "\x00\x01x", "\x01A\x01x", "\x01a\x01x\x01", "\x01b\x01x\x01a\x01x", "\x01a\x01x\x01a\x01y", "\x31" + long + "\x01x", "\x81\x00a\x01x", "\x01a\x01\x7f", strings.Repeat("\x01a\x01x", 100)} {
		if l, ok := label.Of(k); ok || len(l) > 0 {
			t.Errorf("%q: %v", k, l)
		}
	}
	seven := labels("a", "1", "b", "1", "c", "1", "d", "1", "e", "1", "f", "1", "g", "1")
	if _, ok := label.Of(label.Key(seven)); ok {
		t.Error("seven labels")
	}
	if l, ok := label.Of(label.Key(seven[:6])); !ok || !label.Same(l, seven[:6]) {
		t.Error("six labels")
	}
}

func TestLess(t *testing.T) {
	r := rand.New(rand.NewSource(2))
	for range 3000 {
		a, b := some(r), some(r)
		if label.Less(a, b) != (label.Key(a) < label.Key(b)) {
			t.Fatalf("%v %v", a, b)
		}
	}
	if !label.Less(labels("a", "x"), labels("a", "x", "b", "y")) || label.Less(labels("a", "x"), labels("a", "x")) || !label.Less(nil, labels("a", "x")) || label.Less(nil, nil) {
		t.Error("a beginning")
	}
	if !label.Less(labels("b", "x"), labels("aa", "x")) {
		t.Error("the shorter name is ahead, by its length")
	}
}

func TestShow(t *testing.T) {
	for _, x := range []struct {
		l    []api.Label
		want string
	}{{nil, "{}"}, {labels("a", `"\`), `{a="\"\\"}`}, {labels("", ""), `{=""}`}, {labels("B\"", "\n", "b", "y"), "{B\"=\"\n\",b=\"y\"}"}} {
		if s := label.Show(x.l); s != x.want {
			t.Errorf("%v: %s", x.l, s)
		}
	}
}

func TestReadTellsWhatIsShown(t *testing.T) {
	r := rand.New(rand.NewSource(3))
	for range 5000 {
		l := some(r)
		s := label.Show(l)
		if got, ok := label.Read(s); !ok || !label.Same(got, l) {
			t.Fatalf("%v: %v", l, got)
		}
		b := []byte(s)
		b[r.Intn(len(b))] = `{}",=\ax`[r.Intn(8)]
		if got, ok := label.Read(string(b)); ok && label.Show(got) != string(b) || !ok && len(got) > 0 {
			t.Fatalf("%s: %v", b, got)
		}
	}
	for _, s := range []string{"", "{", "}", "{}", `{a="x"`, `{a="x}`, `{a=x}`, `a="x"}`, `{a="x"}}`, `{a="x"} `, ` {a="x"}`, `{a="x",}`, `{,a="x"}`, `{a="x"b="y"}`, `{a="x",,b="y"}`, `{a="x", b="y"}`, `{a="\x"}`, `{a="x\"}`, `{a="\`, `{a=""}`, `{="x"}`, `{A="x"}`, `{b="x",a="x"}`, `{a="x",a="x"}`, "{a=\"\x7f\"}", `{{a="x"}`, `{a="` + strings.Repeat("v", 49) + `"}`} {
		if l, ok := label.Read(s); ok || len(l) > 0 {
			t.Errorf("%s: %v", s, l)
		}
	}
	seven := labels("a", "1", "b", "1", "c", "1", "d", "1", "e", "1", "f", "1", "g", "1")
	if _, ok := label.Read(label.Show(seven)); ok {
		t.Error("seven labels")
	}
	if l, ok := label.Read(label.Show(seven[:6])); !ok || !label.Same(l, seven[:6]) {
		t.Error("six labels")
	}
}

func TestGet(t *testing.T) {
	l := labels("a", "x", "b", "y", "a", "z", "", "e")
	for n, want := range map[string]string{"a": "x", "b": "y", "c": "", "": "e", "A": ""} {
		if v := label.Get(l, n); v != want {
			t.Errorf("%q: %q", n, v)
		}
	}
	if label.Get(nil, "a") != "" {
		t.Error("of none")
	}
}

func TestSame(t *testing.T) {
	l := labels("a", "x", "b", "y")
	for _, x := range []struct {
		b    []api.Label
		want bool
	}{{labels("a", "x", "b", "y"), true}, {labels("a", "x"), false}, {nil, false}, {labels("a", "x", "b", "z"), false}, {labels("a", "x", "c", "y"), false}, {labels("b", "y", "a", "x"), false}, {labels("a", "x", "b", "y", "c", "z"), false}} {
		if label.Same(l, x.b) != x.want || label.Same(x.b, l) != x.want {
			t.Errorf("%v", x.b)
		}
	}
	if !label.Same(nil, []api.Label{}) {
		t.Error("none")
	}
}
