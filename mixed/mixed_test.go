package mixed_test

import (
	"fmt"
	"math"
	"math/rand"
	"strings"
	"testing"

	"alluvium/api"
	"alluvium/engine"
	"alluvium/frame"
	"alluvium/meta"
	"alluvium/mixed"
	"alluvium/plan"
	"alluvium/simfs"
	"alluvium/tool"
	"alluvium/truth"
)

func labels(l ...string) []api.Label {
	var out []api.Label
	for i := 0; i < len(l); i += 2 {
		out = append(out, api.Label{Name: l[i], Value: l[i+1]})
	}
	return out
}

func add(t int64, v uint64, l ...string) api.Op { return api.Op{Labels: labels(l...), T: t, V: v} }

func files(f *simfs.Fs) string {
	b := ""
	for _, n := range f.List() {
		s, _ := f.Read(n)
		b += fmt.Sprintf("%s=%q ", n, s)
	}
	return b
}

func put(f *simfs.Fs, name, b string) {
	f.Create(name)
	f.Cut(name, 0)
	f.Append(name, b)
	f.Sync(name)
	f.SyncDir()
}

// store is a machine with a store, to which operations were done.
func store(t *testing.T, gen int, l ...api.Op) *simfs.Fs {
	t.Helper()
	f := simfs.New(1 << 20)
	s, err := engine.Open(f, gen)
	for _, o := range l {
		if a := s.Do(o); a.Err != api.OK {
			err = a.Err
		}
	}
	if err != api.OK {
		t.Fatal(err)
	}
	return f
}

var (
	cut = api.Op{Kind: 5}
	ops = []api.Op{add(1, 1, "a", "x"), add(2, 2, "a", "xyz"), cut, api.Op{Kind: 1, T: 2, To: 2}, add(9, 2, "abcde", "x"), cut, add(3, 3, "abcdefg", "x"), add(4, 4, "abcdefg", "x"), api.Op{Kind: 4}}
)

const opsText = "0\n{a=\"x\"} 1\n 1 1\n{a=\"xyz\"} 2\n{abcde=\"x\"} 9\n 9 2\n{abcdefg=\"x\"} 4\n 3 3\n 4 4\n"

// turned is a store of a generation, with some files of another one.
func turned(t *testing.T, gen, to int, names ...string) *simfs.Fs {
	t.Helper()
	f := store(t, gen, ops...)
	for _, n := range names {
		b, _ := f.Read(n)
		s, err := plan.Turn(n, b, to)
		if err != api.OK {
			t.Fatal(err)
		}
		put(f, n, s)
	}
	return f
}

func TestExample(t *testing.T) {
	if s := mixed.Dump(truth.State{}); s != "0\n" {
		t.Errorf("%q", s)
	}
}

func TestGens(t *testing.T) {
	for _, x := range []struct {
		f    *simfs.Fs
		want [4]int
	}{{store(t, 1), [4]int{0, 2}}, {store(t, 3, ops...), [4]int{0, 0, 0, 4}}, {turned(t, 3, 1, "block-000001", "wal-000004"), [4]int{0, 2, 0, 2}}, {turned(t, 1, 2, "meta"), [4]int{0, 3, 1, 0}}} {
		was, at := files(x.f), x.f.Steps()
		if got, err := mixed.Gens(x.f); got != x.want || err != api.OK {
			t.Errorf("%v, not %v; %v", got, x.want, err)
		}
		put(x.f, "journal", "any")
		put(x.f, "other", "any")
		if got, err := mixed.Gens(x.f); got != x.want || err != api.OK {
			t.Errorf("%v, not %v; %v", got, x.want, err)
		}
		x.f.Remove("journal")
		x.f.Remove("other")
		if files(x.f) != was || at == 0 {
			t.Error("something is changed")
		}
	}
}

func TestView(t *testing.T) {
	for _, x := range []struct {
		f      *simfs.Fs
		newest int
	}{{store(t, 1, ops...), 1}, {store(t, 3, ops...), 3}, {turned(t, 1, 3, "block-000001"), 3}, {turned(t, 1, 2, "block-000003", "meta"), 2}, {turned(t, 3, 1, "wal-000004", "meta", "block-000001"), 3}} {
		put(x.f, "journal", "any")
		was, at := files(x.f), x.f.Steps()
		for _, newest := range []int{math.MinInt, -1, 0, 1, 2, 3, 4, math.MaxInt} {
			s, err := mixed.View(x.f, newest)
			l, also := mixed.Ask(x.f, newest, nil, 0, 99)
			if newest < x.newest {
				if err != api.ErrFuture || also != api.ErrFuture || mixed.Dump(s) != "0\n" || len(l) != 0 {
					t.Errorf("%d of %d: %v", newest, x.newest, err)
				}
			} else if err != api.OK || also != api.OK || mixed.Dump(s) != opsText || len(l) != 3 {
				t.Errorf("%d of %d: %v %s", newest, x.newest, err, mixed.Dump(s))
			}
		}
		if files(x.f) != was || x.f.Steps() != at {
			t.Error("something is changed")
		}
	}
}

func TestCheck(t *testing.T) {
	with := func(name, b string) *simfs.Fs {
		f := store(t, 2, ops...)
		put(f, name, b)
		return f
	}
	torn := store(t, 2, ops...)
	torn.Append("wal-000004", "\x80")
	long := store(t, 3, add(1, 1, "a", strings.Repeat("v", 25)))
	b, _ := meta.Put(meta.Meta{Gen: 2, Next: 1})
	put(long, "meta", b)
	busy := with("journal", "")
	put(busy, "other", "")
	for i, x := range []struct {
		f    *simfs.Fs
		want [4]api.Errno
	}{
		{store(t, 2, add(1, 1, "a", strings.Repeat("v", 24))), [4]api.Errno{0, api.ErrFuture, api.OK, api.ErrCorrupt}},
		{store(t, 1, ops...), [4]api.Errno{0, api.OK, api.ErrCorrupt, api.ErrCorrupt}}, {store(t, 2), [4]api.Errno{0, api.ErrFuture, api.OK, api.ErrCorrupt}}, {store(t, 3, ops...), [4]api.Errno{0, api.ErrFuture, api.ErrFuture, api.OK}},
		{torn, [4]api.Errno{0, api.ErrFuture, api.ErrCorrupt, api.ErrCorrupt}}, {with("other", ""), [4]api.Errno{0, api.ErrFuture, api.ErrCorrupt, api.ErrCorrupt}}, {with("tmp-journal", ""), [4]api.Errno{0, api.ErrFuture, api.ErrCorrupt, api.ErrCorrupt}}, {with("journal", ""), [4]api.Errno{0, api.ErrFuture, api.ErrBusy, api.ErrBusy}}, {busy, [4]api.Errno{0, api.ErrFuture, api.ErrBusy, api.ErrBusy}},
		{long, [4]api.Errno{0, api.ErrFuture, api.ErrFuture, api.ErrCorrupt}}, {turned(t, 2, 1, "meta"), [4]api.Errno{0, api.ErrFuture, api.ErrCorrupt, api.ErrCorrupt}}, {turned(t, 2, 3, "block-000001"), [4]api.Errno{0, api.ErrFuture, api.ErrFuture, api.ErrCorrupt}},
	} {
		was := files(x.f)
		for gen := 1; gen <= 3; gen++ {
			if err := mixed.Check(x.f, gen); err != x.want[gen] {
				t.Errorf("%d: of %d: %v, not %v", i, gen, err, x.want[gen])
			}
		}
		for _, gen := range []int{0, 4, -1, math.MaxInt} {
			if err := mixed.Check(x.f, gen); err != api.ErrArg {
				t.Errorf("%d: of %d: %v", i, gen, err)
			}
		}
		if files(x.f) != was {
			t.Errorf("%d: something is changed", i)
		}
	}
}

func TestErrs(t *testing.T) {
	dead := store(t, 3)
	dead.Fuse(0)
	dead.SyncDir()
	future := store(t, 3, ops...)
	put(future, "block-000099", frame.Head("ABLK", 4, 0))
	corrupt := store(t, 3, ops...)
	corrupt.Remove("wal-000004")
	for i, x := range []struct {
		f   *simfs.Fs
		err api.Errno
	}{{nil, api.ErrArg}, {dead, api.ErrDead}, {future, api.ErrFuture}, {corrupt, api.ErrCorrupt}, {simfs.New(10), api.ErrNone}} {
		if n, err := mixed.Gens(x.f); n != [4]int{} || err != x.err {
			t.Errorf("%d: %v", i, err)
		}
		if s, err := mixed.View(x.f, 3); mixed.Dump(s) != "0\n" || err != x.err {
			t.Errorf("%d: %v", i, err)
		}
		if err := mixed.Check(x.f, 3); err != x.err {
			t.Errorf("%d: %v", i, err)
		}
		if err := mixed.Check(x.f, 0); err != api.ErrArg {
			t.Errorf("%d: %v", i, err)
		}
		if l, err := mixed.Ask(x.f, 3, []api.Matcher{{Kind: 9}}, 5, 4); len(l) != 0 || err != x.err {
			t.Errorf("%d: %v", i, err)
		}
	}
}

func TestAsk(t *testing.T) {
	f := turned(t, 3, 1, "block-000001", "meta")
	a := []api.Matcher{{Kind: 3, Name: "a"}}
	if l, err := mixed.Ask(f, 3, a, 0, 99); err != api.OK || fmt.Sprint(l) != "[{[{a x}] [{1 1}] 0}]" {
		t.Errorf("%v %v", l, err)
	}
	if l, err := mixed.Ask(f, 3, nil, 4, 4); err != api.OK || fmt.Sprint(l) != "[{[{abcdefg x}] [{4 4}] 0}]" {
		t.Errorf("%v %v", l, err)
	}
	if l, err := mixed.Ask(f, 3, nil, 5, 5); err != api.OK || len(l) != 0 {
		t.Errorf("%v %v", l, err)
	}
	for _, x := range []struct {
		m        []api.Matcher
		from, to int64
	}{{a, 5, 4}, {[]api.Matcher{{Kind: 9, Name: "a"}}, 0, 9}, {make([]api.Matcher, 9), 0, 9}, {nil, math.MaxInt64, math.MinInt64}} {
		if l, err := mixed.Ask(f, 3, x.m, x.from, x.to); len(l) != 0 || err != api.ErrArg {
			t.Errorf("%v: %v", x, err)
		}
		if l, err := mixed.Ask(f, 2, x.m, x.from, x.to); len(l) != 0 || err != api.ErrFuture {
			t.Errorf("%v: %v", x, err)
		}
	}
}

// Whoever looks while a migration is not done sees what is there.
func TestWhileMigrating(t *testing.T) {
	for fuse := range 40 {
		f := store(t, 3, ops...)
		f.Fuse(fuse)
		_, err := tool.Migrate(f, 1)
		f.Crash([]int{fuse, 1, 2})
		if s, err := mixed.View(f, 3); err != api.OK || mixed.Dump(s) != opsText {
			t.Fatalf("%d: %v %s", fuse, err, mixed.Dump(s))
		}
		n, _ := mixed.Gens(f)
		if n[0] != 0 || n[2] != 0 || n[1]+n[3] != 4 {
			t.Fatalf("%v", n)
		}
		if (mixed.Check(f, 1) == api.OK) != (n[1] == 4 && engine.Gate(f) == api.OK) {
			t.Fatalf("%v: %v %v", err, n, mixed.Check(f, 1))
		}
	}
}

func TestDump(t *testing.T) {
	s := truth.State{Floor: -3, Series: []api.Series{{Labels: labels("a", `x "\`, "b", "y"), Samples: []api.Sample{{T: -5, V: math.MaxUint64}, {T: math.MaxInt64, V: 0}}, Last: math.MinInt64}, {}}}
	want := "-3\n{a=\"x \\\"\\\\\",b=\"y\"} -9223372036854775808\n -5 18446744073709551615\n 9223372036854775807 0\n{} 0\n"
	if got := mixed.Dump(s); got != want {
		t.Errorf("%q", got)
	}
	if x, ok := mixed.Read(want); ok || mixed.Dump(x) != "0\n" {
		t.Error("it may not be")
	}
}

// A text tells a state: what is told is read, and nothing else is.
func TestRead(t *testing.T) {
	r := rand.New(rand.NewSource(1))
	for range 200 {
		var s truth.State
		for now := range int64(60) {
			l := labels("a", string(`x "\{},`[r.Intn(7)]), "b", fmt.Sprint(r.Intn(3)))
			o := api.Op{Kind: r.Intn(20) / 18, Labels: l[:1+r.Intn(2)], T: now, To: now - r.Int63n(3), V: r.Uint64() >> r.Intn(64)}
			if r.Intn(30) == 0 {
				o = api.Op{Kind: 2, T: now - 5}
			}
			s, _, _ = truth.Do(s, o, 3)
		}
		b := mixed.Dump(s)
		if got, ok := mixed.Read(b); !ok || !truth.Same(got, s) {
			t.Fatalf("%q", b)
		}
		for range 20 {
			x := []byte(b)
			x[r.Intn(len(x))] = "0 1\n-{}\"\\9a="[r.Intn(12)]
			if got, ok := mixed.Read(string(x)); ok && mixed.Dump(got) != string(x) || !ok && mixed.Dump(got) != "0\n" {
				t.Fatalf("%q", x)
			}
		}
	}
	for _, s := range []string{"0\n", "5\n", "1125899906842624\n", "0\n{a=\"x\"} 0\n", "5\n{a=\" \"} 7\n 5 0\n 7 1\n", opsText} {
		if got, ok := mixed.Read(s); !ok || mixed.Dump(got) != s {
			t.Errorf("%q", s)
		}
	}
	for _, s := range []string{
		"", "\n", "0", "00\n", "+0\n", "-0\n", "-1\n", " 0\n", "0 \n", "x\n", "0\n\n", "0\r\n", "1125899906842625\n", "99999999999999999999\n", "{a=\"x\"} 0\n", "0\n 1 1\n", "0\n{a=\"x\"}\n", "0\n{a=\"x\"}0\n", "0\n{a=\"x\"} \n", "0\n{a=\"x\"} 00\n", "0\n{a=\"x\"}  0\n", "0\n{a=\"x\"} 0", "0\n{} 0\n", "0\n{A=\"x\"} 0\n",
		"0\n{a=\"x\"} 1\n 1 1", "0\n{a=\"x\"} 1\n 1\n", "0\n{a=\"x\"} 1\n 1 \n", "0\n{a=\"x\"} 1\n  1 1\n", "0\n{a=\"x\"} 1\n 1  1\n", "0\n{a=\"x\"} 1\n 1 1 \n", "0\n{a=\"x\"} 1\n1 1\n", "0\n{a=\"x\"} 1\n 1 -1\n", "0\n{a=\"x\"} 1\n 1 01\n", "0\n{a=\"x\"} 1\n 1 18446744073709551616\n", "0\n{a=\"x\"} 1\n 2 1\n", "0\n{a=\"x\"} 1\n 1 1\n 1 1\n", "0\n{a=\"x\"} 1\n 1 1\n 0 1\n",
		"2\n{a=\"x\"} 1\n", "2\n{a=\"x\"} 2\n 1 1\n", "0\n{b=\"x\"} 1\n{a=\"x\"} 1\n", "0\n{a=\"x\"} 1\n{a=\"x\"} 1\n", "0\n{a=\"x\"} 1\nx", strings.Repeat("0\n", 1000),
	} {
		if got, ok := mixed.Read(s); ok || mixed.Dump(got) != "0\n" {
			t.Errorf("%q", s)
		}
	}
}

func TestAnswersShareNothing(t *testing.T) {
	f := store(t, 3, ops...)
	s, _ := mixed.View(f, 3)
	s.Series[0].Samples[0].V = 666
	if s, _ := mixed.View(f, 3); mixed.Dump(s) != opsText {
		t.Error("it is shared")
	}
}
