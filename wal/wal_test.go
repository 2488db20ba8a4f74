package wal_test

import (
	"fmt"
	"math"
	"math/rand"
	"slices"
	"strings"
	"testing"

	"alluvium/api"
	"alluvium/crc"
	"alluvium/frame"
	"alluvium/label"
	"alluvium/num"
	"alluvium/wal"
)

func labels(l ...string) []api.Label {
	var out []api.Label
	for i := 0; i < len(l); i += 2 {
		out = append(out, api.Label{Name: l[i], Value: l[i+1]})
	}
	return out
}

// show tells changes, however lists without things are kept.
func show(l []api.Rec) string {
	b := ""
	for _, r := range l {
		b += fmt.Sprintf("%d%s%d,%d,%d;", r.Kind, label.Show(r.Labels), r.T, r.To, r.V)
	}
	return b
}

func sameWriter(a, b wal.Writer) bool { return a.Gen == b.Gen && slices.Equal(a.Keys, b.Keys) }

func TestExample(t *testing.T) {
	s, w, err := wal.Put(wal.Writer{Gen: 2}, []api.Rec{{Kind: 2, T: 5}})
	if s != frame.Put("\x02\x05") || !sameWriter(w, wal.Writer{Gen: 2}) || err != api.OK {
		t.Errorf("%q %v %v", s, w, err)
	}
}

func TestValid(t *testing.T) {
	a := labels("a", "x")
	for _, r := range []api.Rec{
		{Kind: 0, Labels: a}, {Kind: 0, Labels: a, T: api.MaxTime, V: math.MaxUint64}, {Kind: 1, Labels: a}, {Kind: 1, Labels: a, T: math.MinInt64, To: math.MaxInt64}, {Kind: 1, Labels: a, T: 5, To: 5}, {Kind: 2}, {Kind: 2, T: api.MaxTime, Labels: []api.Label{}},
	} {
		for gen := 1; gen <= 3; gen++ {
			if err := wal.Valid(r, gen); err != api.OK {
				t.Errorf("%v in %d: %v", r, gen, err)
			}
		}
	}
	for _, r := range []api.Rec{
		{Kind: 0}, {Kind: 0, Labels: labels("A", "x")}, {Kind: 0, Labels: a, T: -1}, {Kind: 0, Labels: a, T: api.MaxTime + 1}, {Kind: 0, Labels: a, To: 1}, {Kind: 0, Labels: a, To: -1},
		{Kind: 1}, {Kind: 1, Labels: labels("a", "")}, {Kind: 1, Labels: a, T: 6, To: 5}, {Kind: 1, Labels: a, V: 1}, {Kind: 1, Labels: a, T: math.MaxInt64, To: math.MinInt64},
		{Kind: 2, Labels: a}, {Kind: 2, T: -1}, {Kind: 2, T: api.MaxTime + 1}, {Kind: 2, To: 1}, {Kind: 2, V: 1}, {Kind: 3}, {Kind: -1, Labels: a}, {Kind: math.MaxInt}, {Kind: math.MinInt},
	} {
		for gen := -1; gen <= 4; gen++ {
			if err := wal.Valid(r, gen); err != api.ErrArg {
				t.Errorf("%v in %d: %v", r, gen, err)
			}
		}
	}
	for n, first := range map[int]int{1: 1, 12: 1, 13: 2, 24: 2, 25: 3, 48: 3} {
		for kind := range 2 {
			for gen := -1; gen < 6; gen++ {
				want := api.ErrLong
				if gen >= first && gen <= 3 {
					want = api.OK
				}
				if err := wal.Valid(api.Rec{Kind: kind, Labels: labels("a", strings.Repeat("v", n))}, gen); err != want {
					t.Errorf("%d bytes in %d: %v", n, gen, err)
				}
			}
		}
	}
	if wal.Valid(api.Rec{Kind: 2}, 0) != api.OK || wal.Valid(api.Rec{Kind: 2}, 99) != api.OK {
		t.Error("no labels are not too long")
	}
}

func TestBegin(t *testing.T) {
	for gen := 1; gen <= 3; gen++ {
		if s, w, err := wal.Begin(gen); s != "AWAL"+string([]byte{byte(gen), 0})+crc.Tail("AWAL"+string([]byte{byte(gen), 0})) || !sameWriter(w, wal.Writer{Gen: gen}) || err != api.OK {
			t.Errorf("%d: %q %v %v", gen, s, w, err)
		}
	}
	for _, gen := range []int{0, 4, -1, 257, math.MaxInt, math.MinInt} {
		if s, w, err := wal.Begin(gen); s != "" || !sameWriter(w, wal.Writer{}) || err != api.ErrArg {
			t.Errorf("%d: %q %v %v", gen, s, w, err)
		}
	}
}

// l are changes of two series, one of them told twice.
var l = []api.Rec{
	{Kind: 0, Labels: labels("a", "x"), T: 300, V: 7}, {Kind: 0, Labels: labels("a", "x"), T: 290, V: 5}, {Kind: 1, Labels: labels("a", "x", "b", "y"), T: -1, To: 2}, {Kind: 2, T: 300}, {Kind: 0, Labels: labels("a", "x", "b", "y"), T: 290, V: 5},
}

var keys = []string{"\x01a\x01x", "\x01a\x01x\x01b\x01y"}

func record(kind byte, t, to int64, v uint64, x ...string) string {
	s := string([]byte{kind}) + num.Wide(uint64(t)) + num.Wide(uint64(to)) + num.Wide(v) + string([]byte{byte(len(x) / 2)})
	for i := range 12 {
		text := ""
		if i < len(x) {
			text = x[i]
		}
		s += text + strings.Repeat("\x00", 12-len(text)) + string([]byte{byte(len(text))})
	}
	return s + crc.Tail(s)
}

func TestBytes(t *testing.T) {
	one := record(0, 300, 0, 7, "a", "x") + record(0, 290, 0, 5, "a", "x") + record(1, -1, 2, 0, "a", "x", "b", "y") + record(2, 300, 0, 0) + record(0, 290, 0, 5, "a", "x", "b", "y")
	two := frame.Put("\x00\x00\x04\x01a\x01x\xac\x02"+num.Wide(7)) + frame.Put("\x00\x00\xa2\x02"+num.Wide(5)) + frame.Put("\x01\x01\x08\x01a\x01x\x01b\x01y\x01\x04") + frame.Put("\x02\xac\x02") + frame.Put("\x00\x01\xa2\x02"+num.Wide(5))
	three := frame.Put("\x05" + "\x00\x00\x04\x01a\x01x\xd8\x04\x07" + "\x00\x00\x13\x02" + "\x01\x01\x08\x01a\x01x\x01b\x01y\x01\x04" + "\x02\xac\x02" + "\x00\x01\x00\x00")
	for i, want := range []string{one, two, three} {
		s, w, err := wal.Put(wal.Writer{Gen: i + 1}, l)
		ks := keys
		if i == 0 {
			ks = nil
		}
		if s != want || err != api.OK || !sameWriter(w, wal.Writer{Gen: i + 1, Keys: ks}) {
			t.Errorf("%d: %q, not %q; %v %v", i+1, s, want, w, err)
		}
		head, _, _ := wal.Begin(i + 1)
		g, err := wal.Read(head + s)
		if err != api.OK || show(g.Recs) != show(l) || g.Flags != 0 || g.Torn || g.Used != len(head+s) || !sameWriter(g.Writer, w) {
			t.Errorf("%d: %v %v", i+1, g, err)
		}
	}
	if len(one) != 5*186 {
		t.Errorf("%d bytes", len(one))
	}
}

// A writer that knows keys goes on behind them.
func TestKeysGoOn(t *testing.T) {
	for gen := 1; gen <= 3; gen++ {
		w := wal.Writer{Gen: gen, Keys: []string{"\x01q\x01q", keys[1]}}
		_, next, err := wal.Put(w, l)
		want := []string{"\x01q\x01q", keys[1], keys[0]}
		if gen == 1 {
			want = want[:2]
		}
		if err != api.OK || !slices.Equal(next.Keys, want) || len(w.Keys) != 2 {
			t.Errorf("%d: %q %v", gen, next.Keys, err)
		}
		if len(next.Keys) > 0 {
			next.Keys[0] = "spoilt"
		}
		if w.Keys[0] != "\x01q\x01q" {
			t.Errorf("%d: keys are shared", gen)
		}
	}
	s, _, _ := wal.Put(wal.Writer{Gen: 2, Keys: []string{"\x01q\x01q", keys[1]}}, l[4:])
	if s != frame.Put("\x00\x01\xa2\x02"+num.Wide(5)) {
		t.Errorf("%q", s)
	}
	s, _, _ = wal.Put(wal.Writer{Gen: 3, Keys: make([]string, 300)}, l[:1])
	if s != frame.Put("\x01\x00\xac\x02\x04\x01a\x01x\xd8\x04\x07") {
		t.Errorf("%q", s)
	}
}

func TestPutErrs(t *testing.T) {
	long := api.Rec{Kind: 0, Labels: labels("a", strings.Repeat("v", 30))}
	bad := api.Rec{Kind: 3}
	w := func(gen int) wal.Writer { return wal.Writer{Gen: gen, Keys: []string{"k"}} }
	for i, x := range []struct {
		gen int
		l   []api.Rec
		err api.Errno
	}{{0, l, api.ErrArg}, {4, []api.Rec{long}, api.ErrArg}, {-1, nil, api.ErrArg}, {2, []api.Rec{l[0], long, bad}, api.ErrLong}, {2, []api.Rec{l[0], bad, long}, api.ErrArg}, {3, []api.Rec{long, bad}, api.ErrArg}, {1, []api.Rec{long}, api.ErrLong}} {
		if s, next, err := wal.Put(w(x.gen), x.l); s != "" || err != x.err || !sameWriter(next, w(x.gen)) {
			t.Errorf("%d: %q %v %v", i, s, next, err)
		}
	}
	for gen := 1; gen <= 3; gen++ {
		if s, next, err := wal.Put(w(gen), nil); s != "" || err != api.OK || !sameWriter(next, w(gen)) {
			t.Errorf("no changes in %d: %q", gen, s)
		}
	}
}

func TestMostOfAFrame(t *testing.T) {
	many := func(n int) []api.Rec { return slices.Repeat([]api.Rec{{Kind: 2, T: 1}}, n) }
	// two bytes of how many there are, and two of each
	if s, _, err := wal.Put(wal.Writer{Gen: 3}, many(9999)); err != api.OK || s != frame.Put(num.Small(9999)+strings.Repeat("\x02\x01", 9999)) {
		t.Errorf("20000 bytes: %v", err)
	}
	head, _, _ := wal.Begin(3)
	s, _, _ := wal.Put(wal.Writer{Gen: 3}, many(9999))
	if g, err := wal.Read(head + s); err != api.OK || len(g.Recs) != 9999 {
		t.Errorf("20000 bytes are read: %v", err)
	}
	odd := append(many(9998), api.Rec{Kind: 2, T: 128})
	if s, _, err := wal.Put(wal.Writer{Gen: 3}, odd); s != "" || err != api.ErrMany {
		t.Errorf("20001 bytes: %v", err)
	}
	if s, _, err := wal.Put(wal.Writer{Gen: 3}, odd[1:]); err != api.OK || len(s) != 3+19999+4 {
		t.Errorf("19999 bytes: %v", err)
	}
	if _, err := wal.Read(head + frame.Put(num.Small(9999)+strings.Repeat("\x02\x01", 9998)+"\x02\x80\x01")); err != api.ErrCorrupt {
		t.Errorf("20001 bytes are read: %v", err)
	}
	if s, w, err := wal.Put(wal.Writer{Gen: 3}, many(10000)); s != "" || err != api.ErrMany || !sameWriter(w, wal.Writer{Gen: 3}) {
		t.Errorf("20002 bytes: %v", err)
	}
	if g, err := wal.Read(head + frame.Put(num.Small(10000)+strings.Repeat("\x02\x01", 10000))); err != api.ErrCorrupt || len(g.Recs) != 0 {
		t.Errorf("20002 bytes are read: %v", err)
	}
	for gen := 1; gen <= 2; gen++ {
		if s, _, err := wal.Put(wal.Writer{Gen: gen}, many(10000)); err != api.OK || len(s) < 20000 {
			t.Errorf("%d: %v", gen, err)
		}
	}
	if s, w, err := wal.Put(wal.Writer{Gen: 3}, append(many(10000), api.Rec{Kind: 9})); s != "" || err != api.ErrArg || w.Gen != 3 {
		t.Errorf("what is not valid is told first: %v", err)
	}
}

// some are changes that may be, of labels of at most n bytes.
func some(r *rand.Rand, n int) []api.Rec {
	var l []api.Rec
	for range r.Intn(6) {
		x := labels("a", strings.Repeat("v", 1+r.Intn(n)))
		if r.Intn(2) == 0 {
			x = append(x, api.Label{Name: "b", Value: "\"\\ "})
		}
		switch r.Intn(4) {
		case 0:
			from := int64(r.Uint64())
			l = append(l, api.Rec{Kind: 1, Labels: x, T: min(from, 0), To: max(from, 0)})
		case 1:
			l = append(l, api.Rec{Kind: 2, T: r.Int63n(api.MaxTime + 1)})
		default:
			l = append(l, api.Rec{Labels: x, T: r.Int63n(api.MaxTime+1) >> r.Intn(50), V: r.Uint64() >> r.Intn(64)})
		}
	}
	return l
}

// What is put is read, and what is torn tells a beginning, at every byte.
func TestWhatIsPutIsRead(t *testing.T) {
	r := rand.New(rand.NewSource(1))
	for round := range 120 {
		gen := 1 + round%3
		s, w, _ := wal.Begin(gen)
		type end struct {
			used, n int
			w       wal.Writer
		}
		ends := []end{{len(s), 0, w}}
		var all []api.Rec
		for range r.Intn(5) {
			l := some(r, label.Limit(gen))
			for i := range l {
				if gen < 3 { // a frame, or a record, of each
					b, next, err := wal.Put(w, l[i:i+1])
					if err != api.OK {
						t.Fatal(err)
					}
					s, w, all = s+b, next, append(all, l[i])
					ends = append(ends, end{len(s), len(all), w})
				}
			}
			if gen == 3 {
				b, next, err := wal.Put(w, l)
				if err != api.OK {
					t.Fatal(err)
				}
				s, w, all = s+b, next, append(all, l...)
				ends = append(ends, end{len(s), len(all), w})
			}
		}
		for i := ends[0].used; i <= len(s); i++ {
			at := 0
			for at+1 < len(ends) && ends[at+1].used <= i {
				at++
			}
			g, err := wal.Read(s[:i])
			if err != api.OK || g.Used != ends[at].used || g.Torn != (i > ends[at].used) || show(g.Recs) != show(all[:ends[at].n]) || !sameWriter(g.Writer, ends[at].w) {
				t.Fatalf("%d: %d of %d bytes: %v %v", gen, i, len(s), g, err)
			}
		}
		for i := range ends[0].used {
			if g, err := wal.Read(s[:i]); err != api.ErrCorrupt || len(g.Recs) != 0 || g.Gen != 0 {
				t.Fatalf("%d bytes: %v", i, err)
			}
		}
		for i := range s {
			b := []byte(s)
			b[i] ^= byte(1 << r.Intn(8))
			g, err := wal.Read(string(b))
			if err == api.OK && (!g.Torn || !strings.HasPrefix(show(all), show(g.Recs))) || err != api.OK && len(g.Recs) > 0 {
				t.Fatalf("%d: byte %d is another one: %v", gen, i, g)
			}
		}
	}
}

func TestSixLabels(t *testing.T) {
	six := []api.Rec{{Labels: labels("a", "1", "b", "2", "c", "3", "d", "4", "e", "5", "f", "6"), T: 1, V: 2}}
	for gen := 1; gen <= 3; gen++ {
		head, w, _ := wal.Begin(gen)
		s, _, err := wal.Put(w, six)
		if g, also := wal.Read(head + s); err != api.OK || also != api.OK || show(g.Recs) != show(six) {
			t.Errorf("%d: %v %v", gen, err, also)
		}
	}
}

func TestHeads(t *testing.T) {
	for flags := 0; flags <= 3; flags++ {
		if g, err := wal.Read(frame.Head("AWAL", 2, flags) + frame.Put("\x02\x05")); err != api.OK || g.Flags != flags || g.Gen != 2 || len(g.Recs) != 1 {
			t.Errorf("flags %d: %v", flags, err)
		}
	}
	for s, want := range map[string]api.Errno{"": api.ErrCorrupt, frame.Head("AWAL", 0, 0): api.ErrCorrupt, frame.Head("ABLK", 1, 0): api.ErrCorrupt, frame.Head("AWAL", 4, 0): api.ErrFuture, frame.Head("AWAL", 1, 4): api.ErrFuture} {
		if g, err := wal.Read(s); err != want || g.Gen != 0 || g.Used != 0 || g.Torn {
			t.Errorf("%q: %v", s, err)
		}
	}
}

// What Put does not put is corrupt, if it is not short.
func TestWhatPutDoesNotPut(t *testing.T) {
	key := "\x04\x01a\x01x"
	fix := func(at int, b byte) string {
		s := []byte(record(0, 300, 0, 7, "a", "x"))
		s[at] = b
		return string(s[:182]) + crc.Tail(string(s[:182]))
	}
	bad := map[int][]string{
		1: {strings.Repeat("\x00", 186), fix(0, 3), fix(0, 1), fix(0, 2), fix(8, 0x80), fix(9, 1), fix(25, 0), fix(25, 2), fix(25, 7), fix(26, 'A'), fix(27, 'b'), fix(38, 2), fix(38, 13), fix(38, 0), fix(52, 'c'), fix(52+12, 1), fix(181, 1), record(0, 1, 0, 0), record(1, 1, 0, 0, "a", "x"), record(2, 1, 0, 0, "a", "x"), record(0, 1, 0, 0, "b", "x", "a", "x"), record(0, 300, 0, 7, "a", "x")[:185] + "?"},
		2: {frame.Put(""), frame.Put("\x03"), frame.Put("\x80\x00"), frame.Put("\x02"), frame.Put("\x02\x05\x00"), frame.Put("\x02\x85\x00"), frame.Put("\x02" + num.Small(api.MaxTime+1)), frame.Put("\x02" + num.Small(math.MaxUint64)), frame.Put(num.Small(1<<63) + "\x05"), frame.Put(num.Small(math.MaxUint64) + "\x05"),
			frame.Put("\x00\x01" + key + "\x05" + num.Wide(1)), frame.Put("\x00\x00\x04\x01A\x01x\x05" + num.Wide(1)), frame.Put("\x00\x00\x00\x05" + num.Wide(1)), frame.Put("\x00\x00" + key + "\x05" + num.Wide(1)[1:]), frame.Put("\x00\x00" + key + "\x05" + num.Wide(1) + "\x00"),
			frame.Put("\x00\x00"+key+"\x05"+num.Wide(1)) + frame.Put("\x00\x01"+key+"\x05"+num.Wide(1)), frame.Put("\x00\x00"+key+"\x05"+num.Wide(1)) + frame.Put("\x00\x02\x05"+num.Wide(1)), frame.Put("\x00" + num.Small(math.MaxUint64) + "\x05" + num.Wide(1)),
			frame.Put("\x01\x00" + key + "\x04\x02"), frame.Put("\x01\x00" + key + "\x04"), frame.Put("\x01\x00" + key + "\x02\x04\x00"), frame.Put("\x00\x00\x0f\x01a\x0d" + strings.Repeat("v", 25) + "\x05" + num.Wide(1)), frame.Put("\x00\x00\x1c\x01a\x19" + strings.Repeat("v", 25) + "\x05" + num.Wide(1)), "\x80\x00", "\x02\x02\x05????"},
		3: {frame.Put(""), frame.Put("\x00"), frame.Put("\x01"), frame.Put("\x02\x02\x05"), frame.Put("\x01\x02\x05\x02\x06"), frame.Put("\x01\x03"), frame.Put(num.Small(math.MaxUint64) + "\x02\x05"), frame.Put("\x01\x00\x00" + key + "\x01\x00"), frame.Put("\x01\x00\x00" + key + "\x02"), frame.Put("\x01\x00\x00" + key + num.Small(num.Zig(api.MaxTime+1)) + "\x00"),
			frame.Put("\x02\x00\x00" + key + "\x02\x00\x00\x01" + key + "\x02\x00"), frame.Put("\x02\x00\x00" + key + "\x02\x00\x00\x00\x03\x00"), frame.Put("\x01\x01\x00" + key + "\x04\x02"), frame.Put("\x81\x00\x02\x05"), "\x80\x00", "\x03\x01\x02\x05????"},
	}
	for gen, l := range bad {
		head, _, _ := wal.Begin(gen)
		good, _, _ := wal.Put(wal.Writer{Gen: gen}, []api.Rec{{Kind: 2, T: 5}})
		for _, s := range l {
			for _, ahead := range []string{head, head + good} {
				if g, err := wal.Read(ahead + s); err != api.ErrCorrupt || g.Gen != 0 || len(g.Recs) != 0 || g.Used != 0 || g.Torn {
					t.Errorf("%d: %q: %v %v", gen, s, g, err)
				}
			}
		}
		for _, s := range []string{"\x80", "\x05", "\x05abc"} {
			if g, err := wal.Read(head + good + s); err != api.OK || !g.Torn || g.Used != len(head+good) || len(g.Recs) != 1 {
				t.Errorf("%d: %q is short: %v", gen, s, err)
			}
		}
	}
	// a segment of generation 3, whose changes are whole, but too long for 2
	head, _, _ := wal.Begin(2)
	s, _, _ := wal.Put(wal.Writer{Gen: 2}, []api.Rec{{Labels: labels("a", strings.Repeat("v", 24)), T: 5}})
	if _, err := wal.Read(head + s); err != api.OK {
		t.Errorf("24 bytes in 2: %v", err)
	}
}

// Of two changes of one frame: labels are read anew.
func TestReadSharesNothing(t *testing.T) {
	for gen := 1; gen <= 3; gen++ {
		head, w, _ := wal.Begin(gen)
		s, _, _ := wal.Put(w, l)
		g, _ := wal.Read(head + s)
		g.Recs[0].Labels[0].Value = "spoilt"
		if g.Recs[1].Labels[0].Value != "x" || l[0].Labels[0].Value != "x" {
			t.Errorf("%d: labels are shared", gen)
		}
	}
}
