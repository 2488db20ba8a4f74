package block_test

import (
	"fmt"
	"math"
	"math/rand"
	"slices"
	"strings"
	"testing"

	"alluvium/api"
	"alluvium/block"
	"alluvium/chunk"
	"alluvium/frame"
	"alluvium/index"
	"alluvium/label"
	"alluvium/num"
	"alluvium/truth"
	"alluvium/wal"
)

func labels(l ...string) []api.Label {
	var out []api.Label
	for i := 0; i < len(l); i += 2 {
		out = append(out, api.Label{Name: l[i], Value: l[i+1]})
	}
	return out
}

func samples(l ...int64) []api.Sample {
	var out []api.Sample
	for i := 0; i < len(l); i += 2 {
		out = append(out, api.Sample{T: l[i], V: uint64(l[i+1])})
	}
	return out
}

func some() block.Block {
	return block.Block{Floor: 7, Gone: []api.Rec{{Kind: 1, Labels: labels("c", "z"), T: -3, To: 9}, {Kind: 1, Labels: labels("a", "x")}}, Series: []api.Series{{Labels: labels("a", "x"), Samples: samples(1, 2, 300, 4), Last: 300}, {Labels: labels("b", "x"), Last: 0}}}
}

func TestExample(t *testing.T) {
	six := "\x00\x00"
	c, _ := index.Put(nil, 2)
	if s, err := block.Put(block.Block{}, 2); err != api.OK || s != frame.Head("ABLK", 2, 0)+frame.Put("\x00")+frame.Put("")+frame.Put(c) || len(c) != 6 || c[:2] != six {
		t.Errorf("%q %v", s, err)
	}
}

func TestBytes(t *testing.T) {
	b := some()
	for gen := 1; gen <= 3; gen++ {
		floor := "\x07"
		if gen == 1 {
			floor = num.Wide(7)
		}
		gone, _, _ := wal.Put(wal.Writer{Gen: gen}, b.Gone)
		c1, _ := chunk.Put(b.Series[0].Samples, gen)
		c2, _ := chunk.Put(nil, gen)
		entries, _ := index.Put([]index.Entry{{Labels: labels("a", "x"), Last: 300, Off: 0, Len: len(c1)}, {Labels: labels("b", "x"), Off: len(c1), Len: len(c2)}}, gen)
		want := frame.Head("ABLK", gen, 3) + frame.Put(floor) + frame.Put(gone) + frame.Put(entries) + c1 + c2
		if s, err := block.Put(b, gen); s != want || err != api.OK {
			t.Errorf("%d: %q, not %q", gen, s, want)
		}
		if got, g, err := block.Get(want); err != api.OK || g != gen || !block.Same(got, b) {
			t.Errorf("%d: %v %d %v", gen, got, g, err)
		}
		for to := 1; to <= 3; to++ {
			wanted, _ := block.Put(b, to)
			if s, err := block.Turn(want, to); s != wanted || err != api.OK {
				t.Errorf("%d to %d: %v", gen, to, err)
			}
		}
		for _, to := range []int{0, 4, -1} {
			if s, err := block.Turn(want, to); s != "" || err != api.ErrArg {
				t.Errorf("%d to %d: %v", gen, to, err)
			}
		}
	}
}

func TestFlags(t *testing.T) {
	for _, x := range []struct {
		change func(b *block.Block)
		want   byte
	}{{func(b *block.Block) {}, 3}, {func(b *block.Block) { b.Floor = 0 }, 1}, {func(b *block.Block) { b.Gone = nil }, 2}, {func(b *block.Block) { b.Gone, b.Floor = nil, 0 }, 0}, {func(b *block.Block) { b.Gone, b.Floor = b.Gone[:1], 0 }, 1}, {func(b *block.Block) { b.Gone, b.Floor = nil, 1 }, 2}} {
		for gen := 1; gen <= 3; gen++ {
			b := some()
			x.change(&b)
			s, err := block.Put(b, gen)
			if err != api.OK || s[4] != byte(gen) || s[5] != x.want {
				t.Errorf("%v: %d", b, s[5])
			}
			if got, _, err := block.Get(s); err != api.OK || !block.Same(got, b) {
				t.Errorf("%v: %v", b, err)
			}
			for f := range 4 { // other flags are not its own
				if _, g, err := block.Get(frame.Head("ABLK", gen, f) + s[10:]); (err == api.OK) != (f == int(x.want)) || err != api.OK && (err != api.ErrCorrupt || g != 0) {
					t.Errorf("flags %d for %d: %v", f, x.want, err)
				}
			}
		}
	}
}

func TestValid(t *testing.T) {
	long := func(n int) []api.Label { return labels("a", strings.Repeat("v", n)) }
	manyGone := func(n int) []api.Rec { return slices.Repeat([]api.Rec{{Kind: 1, Labels: labels("a", "x")}}, n) }
	rising := func(n int) []api.Sample {
		var l []api.Sample
		for i := range n {
			l = append(l, api.Sample{T: int64(i)})
		}
		return l
	}
	many := func(n int) []api.Series {
		var l []api.Series
		for i := range n {
			l = append(l, api.Series{Labels: labels("a", fmt.Sprintf("%02d", i))})
		}
		return l
	}
	for i, b := range []block.Block{{}, some(), {Floor: api.MaxTime}, {Gone: manyGone(400)}, {Series: many(20)}, {Series: []api.Series{{Labels: long(1), Samples: rising(200), Last: api.MaxTime}}}, {Series: []api.Series{{Labels: long(1), Samples: samples(math.MinInt64, 1, math.MaxInt64, 2)}}}} {
		for gen := 1; gen <= 3; gen++ {
			s, err := block.Put(b, gen)
			if got, _, also := block.Get(s); block.Valid(b, gen) != api.OK || err != api.OK || also != api.OK || !block.Same(got, b) {
				t.Errorf("%d in %d: %v %v", i, gen, err, also)
			}
		}
		for _, gen := range []int{0, 4, -1, math.MaxInt} {
			if s, err := block.Put(b, gen); s != "" || err != api.ErrArg || block.Valid(b, gen) != api.ErrArg {
				t.Errorf("%d in %d: %v", i, gen, err)
			}
		}
	}
	for i, b := range []block.Block{
		{Floor: -1}, {Floor: api.MaxTime + 1}, {Gone: manyGone(401)}, {Series: many(21)}, {Gone: []api.Rec{{Kind: 0, Labels: long(1)}}}, {Gone: []api.Rec{{Kind: 2}}}, {Gone: []api.Rec{{Kind: 1}}}, {Gone: []api.Rec{{Kind: 1, Labels: long(1), T: 2, To: 1}}}, {Gone: []api.Rec{{Kind: 1, Labels: long(1), V: 1}}},
		{Series: []api.Series{{}}}, {Series: []api.Series{{Labels: long(2)}, {Labels: long(1)}}}, {Series: []api.Series{{Labels: long(1)}, {Labels: long(1)}}}, {Series: []api.Series{{Labels: long(1), Samples: rising(201)}}}, {Series: []api.Series{{Labels: long(1), Samples: samples(1, 1, 1, 2)}}}, {Series: []api.Series{{Labels: long(1), Last: -1}}}, {Series: []api.Series{{Labels: long(1), Last: api.MaxTime + 1}}},
		{Gone: []api.Rec{{Kind: 1, Labels: long(48)}, {Kind: 2}}}, {Gone: []api.Rec{{Kind: 1, Labels: long(48)}}, Series: []api.Series{{Labels: long(1), Last: -1}}},
	} {
		for gen := 1; gen <= 3; gen++ {
			if s, err := block.Put(b, gen); s != "" || err != api.ErrArg || block.Valid(b, gen) != api.ErrArg {
				t.Errorf("%d in %d: %v", i, gen, err)
			}
		}
	}
	for n, first := range map[int]int{12: 1, 13: 2, 24: 2, 25: 3, 48: 3} {
		for _, b := range []block.Block{{Gone: []api.Rec{{Kind: 1, Labels: long(1)}, {Kind: 1, Labels: long(n)}}}, {Series: []api.Series{{Labels: long(1)}, {Labels: labels(strings.Repeat("n", n), "x")}}}} {
			if block.Longest(b) != n {
				t.Errorf("%d: %d", n, block.Longest(b))
			}
			for gen := 1; gen <= 3; gen++ {
				want := api.ErrLong
				if gen >= first {
					want = api.OK
				}
				s, err := block.Put(b, gen)
				if err != want || block.Valid(b, gen) != want {
					t.Errorf("%d in %d: %v", n, gen, err)
				}
				for to := gen; want == api.OK && to > 0; to-- {
					if _, err := block.Turn(s, to); (err == api.OK) != (to >= first) || err != api.OK && err != api.ErrLong {
						t.Errorf("%d from %d to %d: %v", n, gen, to, err)
					}
				}
			}
		}
	}
	if block.Longest(block.Block{}) != 0 {
		t.Error("of none")
	}
}

// A frame of generation 3 may be too long, though each change may be.
func TestMany(t *testing.T) {
	var b block.Block
	for i := range 400 {
		l := labels(strings.Repeat("n", 48), strings.Repeat("v", 40)+fmt.Sprint(i))
		b.Gone = append(b.Gone, api.Rec{Kind: 1, Labels: l})
	}
	if s, err := block.Put(b, 3); s != "" || err != api.ErrMany || block.Valid(b, 3) != api.OK {
		t.Errorf("%v", err)
	}
}

func TestGetErrs(t *testing.T) {
	for gen := 1; gen <= 3; gen++ {
		s, _ := block.Put(some(), gen)
		for i := range s {
			if b, g, err := block.Get(s[:i]); err != api.ErrCorrupt || g != 0 || !block.Same(b, block.Block{}) {
				t.Errorf("%d bytes: %v", i, err)
			}
			x := []byte(s)
			x[i] ^= 2
			if b, g, err := block.Get(string(x)); err != api.ErrCorrupt || g != 0 || !block.Same(b, block.Block{}) {
				t.Errorf("byte %d is another one: %v", i, err)
			}
		}
		if _, _, err := block.Get(s + "x"); err != api.ErrCorrupt {
			t.Error("more is behind")
		}
		if _, err := block.Turn(s+"x", 9); err != api.ErrCorrupt {
			t.Error("more is behind, and turned")
		}
	}
	head, floor, gone, entries := frame.Head("ABLK", 2, 0), frame.Put("\x00"), frame.Put(""), frame.Put("\x00\x00"+"\x00\x00\x00\x00")
	idx := func(l ...index.Entry) string { s, _ := index.Put(l, 2); return frame.Put(s) }
	c, _ := chunk.Put(nil, 2)
	kept, _, _ := wal.Put(wal.Writer{Gen: 2}, []api.Rec{{Kind: 0, Labels: labels("a", "x")}})
	torn, _, _ := wal.Put(wal.Writer{Gen: 2}, []api.Rec{{Kind: 1, Labels: labels("a", "x")}})
	for i, s := range []string{
		"", frame.Head("AWAL", 2, 0) + floor + gone + idx(), head, head + floor, head + floor + gone, head + floor + gone + entries, head + frame.Put("") + gone + idx(), head + frame.Put("\x00\x00") + gone + idx(), head + frame.Put(num.Wide(0)) + gone + idx(), head + frame.Put("\x80\x00") + gone + idx(), frame.Head("ABLK", 2, 2) + floor + gone + idx(), head + frame.Put("\x01") + gone + idx(),
		frame.Head("ABLK", 2, 1) + floor + frame.Put(kept) + idx(), frame.Head("ABLK", 2, 1) + floor + frame.Put(torn[:3]) + idx(), head + floor + frame.Put(torn[:3]) + idx(), head + floor + frame.Put("\x05") + idx(), frame.Head("ABLK", 2, 2) + frame.Put(num.Small(math.MaxUint64)) + gone + idx(),
		head + floor + gone + idx(index.Entry{Labels: labels("a", "x")}), head + floor + gone + idx(index.Entry{Labels: labels("a", "x"), Len: 5}), head + floor + gone + idx(index.Entry{Labels: labels("a", "x"), Len: 6}) + c, head + floor + gone + idx(index.Entry{Labels: labels("a", "x"), Len: 1 << 30, Off: 1 << 30}) + c, head + floor + gone + idx(index.Entry{Labels: labels("a", "x"), Len: 5, Off: 1}) + c + c,
		head + floor + gone + idx(index.Entry{Labels: labels("a", "x"), Off: 1, Len: 5}) + "x" + c, head + floor + gone + idx(index.Entry{Labels: labels("a", "x"), Len: 5}, index.Entry{Labels: labels("b", "x"), Len: 5}) + c, head + floor + gone + idx(index.Entry{Labels: labels("a", "x"), Off: 5, Len: 5}, index.Entry{Labels: labels("b", "x"), Len: 5}) + c + c, head + floor + gone + idx() + c,
	} {
		if b, g, err := block.Get(s); err != api.ErrCorrupt || g != 0 || !block.Same(b, block.Block{}) {
			t.Errorf("%d: %v %v", i, b, err)
		}
	}
	if b, _, err := block.Get(head + floor + gone + idx(index.Entry{Labels: labels("a", "x"), Len: 5}) + c); err != api.OK || len(b.Series) != 1 {
		t.Errorf("%v %v", b, err)
	}
	for _, s := range []string{frame.Head("ABLK", 4, 0), frame.Head("ABLK", 1, 4) + "x", frame.Head("ABLK", 0, 255)} {
		if b, g, err := block.Get(s); err != api.ErrFuture || g != 0 || !block.Same(b, block.Block{}) {
			t.Errorf("%q: %v", s, err)
		}
		if s, err := block.Turn(s, 9); s != "" || err != api.ErrFuture {
			t.Errorf("%q: %v", s, err)
		}
	}
}

// text tells a state, or what a block has, part by part.
func text(floor int64, l []api.Series) string {
	b := fmt.Sprint(floor)
	for _, x := range l {
		b += fmt.Sprintf(" %s%v%d", label.Show(x.Labels), x.Samples, x.Last)
	}
	return b
}

func state(floor int64, l ...api.Series) truth.State { return truth.State{Floor: floor, Series: l} }

func series(value string, last int64, l ...int64) api.Series {
	return api.Series{Labels: labels("a", value), Samples: samples(l...), Last: last}
}

func TestDiff(t *testing.T) {
	for i, x := range []struct {
		from, to truth.State
		gone     string
		rest     string
	}{
		{state(0), state(0), "[]", "0"},
		{state(5), state(5), "[]", "0"}, {state(5), state(9), "[]", "9"}, {state(9), state(5), "[]", "0"},
		{state(0), state(0, series("x", 3, 1, 1, 3, 3)), "[]", `0 {a="x"}[{1 1} {3 3}]3`},
		{state(0, series("x", 3, 1, 1, 3, 3)), state(0, series("x", 3, 1, 1, 3, 3)), "[]", "0"},
		{state(0, series("x", 3, 1, 1, 3, 3)), state(0, series("x", 7, 1, 1, 3, 3, 7, 7)), "[]", `0 {a="x"}[{7 7}]7`},
		{state(0, series("x", 3, 1, 1, 3, 3)), state(0, series("x", 7, 1, 1)), "[{1 [{a x}] 3 3 0}]", `0 {a="x"}[]7`},
		{state(0, series("x", 6, 1, 1, 2, 2, 3, 3, 4, 4, 5, 5, 6, 6)), state(0, series("x", 6, 3, 3)), "[{1 [{a x}] 1 2 0} {1 [{a x}] 4 6 0}]", "0"},
		{state(0, series("x", 6, 1, 1, 2, 2, 3, 3, 4, 4, 5, 5, 6, 6)), state(3, series("x", 6, 4, 4, 6, 6)), "[{1 [{a x}] 3 3 0} {1 [{a x}] 5 5 0}]", "3"},
		{state(0, series("x", 6, 1, 1)), state(0), "[{1 [{a x}] 1 1 0}]", "0"},
		{state(0, series("x", 6, 1, 1)), state(7), "[]", "7"},
		{state(0), state(0, series("x", 6)), "[]", `0 {a="x"}[]6`}, {state(0), state(0, series("x", 0)), "[]", `0 {a="x"}[]0`}, {state(0, series("x", 0)), state(0, series("x", 0)), "[]", "0"},
		{state(0, series("x", 1, 1, 1)), state(0, series("x", 1, 1, 2)), "[{1 [{a x}] 1 1 0}]", `0 {a="x"}[{1 2}]1`},
		{state(0, series("x", 9, 9, 1, 1, 1, 8, 1)), state(5, series("x", 9)), "[{1 [{a x}] 9 9 0} {1 [{a x}] 8 8 0}]", "5"},
		{state(0, series("x", 1, 1, 1), series("y", 2, 2, 2)), state(0, series("w", 1, 1, 1), series("y", 3, 3, 3)), "[{1 [{a x}] 1 1 0} {1 [{a y}] 2 2 0}]", `0 {a="w"}[{1 1}]1 {a="y"}[{3 3}]3`},
	} {
		b := block.Diff(x.from, x.to)
		if fmt.Sprint(b.Gone) != x.gone || text(b.Floor, b.Series) != x.rest {
			t.Errorf("%d: %v %s", i, b.Gone, text(b.Floor, b.Series))
		}
	}
}

func TestOver(t *testing.T) {
	s := state(2, series("m", 9, 3, 3, 5, 5, 9, 9), series("n", 4))
	for i, x := range []struct {
		b    block.Block
		want string
	}{
		{block.Block{}, `2 {a="m"}[{3 3} {5 5} {9 9}]9 {a="n"}[]4`},
		{block.Block{Floor: 1}, `2 {a="m"}[{3 3} {5 5} {9 9}]9 {a="n"}[]4`},
		{block.Block{Floor: 5}, `5 {a="m"}[{5 5} {9 9}]9`},
		{block.Block{Floor: 10}, `10`},
		{block.Block{Gone: []api.Rec{{Labels: labels("a", "m"), T: 4, To: 5}, {Labels: labels("a", "q"), T: 4, To: 5}, {Labels: labels("a", "m"), T: 9, To: 20}, {Labels: labels("a", "m"), T: 9, To: 1}}}, `2 {a="m"}[{3 3}]9 {a="n"}[]4`},
		{block.Block{Series: []api.Series{series("m", 12, 11, 1, 12, 1), series("n", 6), series("a", 3, 2, 2), series("z", 2)}}, `2 {a="a"}[{2 2}]3 {a="m"}[{3 3} {5 5} {9 9} {11 1} {12 1}]12 {a="n"}[]6 {a="z"}[]2`},
		{block.Block{Series: []api.Series{series("z", 1)}}, `2 {a="m"}[{3 3} {5 5} {9 9}]9 {a="n"}[]4`},
		{block.Block{Floor: 10, Series: []api.Series{series("m", 11, 10, 1)}}, `10 {a="m"}[{10 1}]11`},
		{block.Block{Gone: []api.Rec{{Labels: labels("a", "m"), T: 0, To: 9}}, Floor: 7, Series: []api.Series{series("m", 9, 8, 8)}}, `7 {a="m"}[{8 8}]9`},
		{block.Block{Floor: 6, Series: []api.Series{series("m", 5)}}, ""},
		{block.Block{Floor: api.MaxTime + 1}, ""}, {block.Block{Floor: math.MaxInt64}, ""}, {block.Block{Series: []api.Series{series("m", 9, 9, 9)}}, ""}, {block.Block{Series: []api.Series{series("m", 8)}}, ""}, {block.Block{Series: []api.Series{series("z", 1, 1, 1)}}, ""}, {block.Block{Series: []api.Series{{Last: 5}}}, ""}, {block.Block{Series: []api.Series{series("m", api.MaxTime+1)}}, ""},
	} {
		was := text(s.Floor, s.Series)
		got, err := block.Over(s, x.b)
		if x.want == "" && (err != api.ErrCorrupt || !truth.Same(got, s)) || x.want != "" && (err != api.OK || text(got.Floor, got.Series) != x.want) {
			t.Errorf("%d: %v %s", i, err, text(got.Floor, got.Series))
		}
		for i := range got.Series {
			got.Series[i].Labels[0].Value = "spoilt"
			for j := range got.Series[i].Samples {
				got.Series[i].Samples[j].V = 666
			}
		}
		if text(s.Floor, s.Series) != was {
			t.Fatalf("%d: the answer shares", i)
		}
	}
	bad := state(-3, series("m", 1))
	if got, err := block.Over(bad, block.Block{Floor: -2}); err != api.ErrCorrupt || !truth.Same(got, bad) {
		t.Errorf("%v", err)
	}
	if got, err := block.Over(bad, block.Block{Floor: 1}); err != api.OK || text(got.Floor, got.Series) != `1 {a="m"}[]1` {
		t.Errorf("%v %v", err, got)
	}
}

func someOp(r *rand.Rand, now int64) api.Op {
	m := []api.Matcher{{Kind: r.Intn(2), Name: "a", Value: fmt.Sprint(r.Intn(6))}}
	switch r.Intn(12) {
	case 0, 1:
		from := r.Int63n(now + 5)
		return api.Op{Kind: 1, Matchers: m, T: from, To: from + r.Int63n(9)}
	case 2:
		return api.Op{Kind: 2, T: r.Int63n(now + 3)}
	}
	return api.Op{Labels: labels("a", fmt.Sprint(r.Intn(5))), T: now - r.Int63n(3), V: uint64(r.Intn(3))}
}

// What Diff tells, over a state, is the other one, if that came of it by operations; through bytes of each generation, too.
func TestDiffOver(t *testing.T) {
	r := rand.New(rand.NewSource(1))
	for range 120 {
		var s truth.State
		states := []truth.State{s}
		for now := range int64(120) {
			s, _, _ = truth.Do(s, someOp(r, now+3), 3)
			states = append(states, s)
		}
		for range 40 {
			i := r.Intn(len(states))
			j := i + r.Intn(len(states)-i)
			b := block.Diff(states[i], states[j])
			gen := 1 + r.Intn(3)
			bytes, err := block.Put(b, gen)
			got, g, also := block.Get(bytes)
			if err != api.OK || also != api.OK || g != gen || !block.Same(got, b) {
				t.Fatalf("%v %v", err, also)
			}
			if over, err := block.Over(states[i], got); err != api.OK || !truth.Same(over, states[j]) {
				t.Fatalf("%v: %s, not %s", err, text(over.Floor, over.Series), text(states[j].Floor, states[j].Series))
			}
			was := text(states[i].Floor, states[i].Series) + text(states[j].Floor, states[j].Series)
			for i := range b.Gone {
				b.Gone[i].Labels[0].Value = "spoilt"
			}
			for i := range b.Series {
				b.Series[i].Labels[0].Value = "spoilt"
				for j := range b.Series[i].Samples {
					b.Series[i].Samples[j].V = 666
				}
			}
			if text(states[i].Floor, states[i].Series)+text(states[j].Floor, states[j].Series) != was {
				t.Fatal("a block shares with a state")
			}
		}
	}
}

func TestSame(t *testing.T) {
	for i, change := range []func(b *block.Block){
		func(b *block.Block) { b.Floor++ }, func(b *block.Block) { b.Gone = b.Gone[:1] }, func(b *block.Block) { b.Gone[0].T++ }, func(b *block.Block) { b.Gone[0].To++ }, func(b *block.Block) { b.Gone[0].V++ }, func(b *block.Block) { b.Gone[0].Kind++ }, func(b *block.Block) { b.Gone[0].Labels = nil },
		func(b *block.Block) { b.Series = nil }, func(b *block.Block) { b.Series[0].Last++ }, func(b *block.Block) { b.Series[0].Samples[1].V++ }, func(b *block.Block) { b.Series[1].Labels[0].Name = "z" },
	} {
		b := some()
		change(&b)
		if block.Same(b, some()) || block.Same(some(), b) || !block.Same(b, b) {
			t.Errorf("%d", i)
		}
	}
	if !block.Same(block.Block{}, block.Block{Gone: []api.Rec{}, Series: []api.Series{}}) {
		t.Error("nothing")
	}
}
