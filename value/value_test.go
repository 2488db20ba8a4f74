package value_test

import (
	"math"
	"math/rand"
	"slices"
	"testing"

	"alluvium/bits"
	"alluvium/value"
)

var start = value.State{Lead: 64}

func TestExample(t *testing.T) {
	w := bits.NewWriter()
	s := start
	for i, cost := range []int{64, 1, 1} {
		n := w.Len()
		if c := value.Cost(s, 7); c != cost {
			t.Errorf("%d: costs %d", i, c)
		}
		s = value.Put(w, s, 7)
		if w.Len()-n != cost || s != (value.State{N: i + 1, V: 7, Lead: 64}) {
			t.Errorf("%d: %d bits, %v", i, w.Len()-n, s)
		}
	}
	if w.Bytes() != "\x00\x00\x00\x00\x00\x00\x00\x07\x00" {
		t.Errorf("%q", w.Bytes())
	}
}

func TestValid(t *testing.T) {
	for _, x := range []struct {
		s    value.State
		want bool
	}{
		{start, true}, {value.State{}, true}, {value.State{N: math.MaxInt, Lead: 63}, true}, {value.State{Trail: 63}, true}, {value.State{Lead: 30, Trail: 33}, true},
		{value.State{N: -1, Lead: 64}, false}, {value.State{Lead: -1}, false}, {value.State{Trail: -1}, false}, {value.State{Lead: 64, Trail: 1}, false}, {value.State{Lead: 64, Trail: -1}, false},
		{value.State{Lead: 31, Trail: 33}, false}, {value.State{Trail: 64}, false}, {value.State{Lead: 65}, false}, {value.State{Lead: 65, Trail: -1}, false},
		{value.State{Lead: math.MaxInt, Trail: math.MaxInt}, false}, {value.State{Lead: math.MinInt}, false}, {value.State{Lead: 1, Trail: math.MaxInt}, false}, {value.State{Lead: math.MaxInt, Trail: 1}, false},
	} {
		if value.Valid(x.s) != x.want {
			t.Errorf("%v", x.s)
		}
		if x.want {
			continue
		}
		w, r := bits.NewWriter(), bits.NewReader("\x00\x00\x00\x00\x00\x00\x00\x00")
		if s := value.Put(w, x.s, 5); s != x.s || w.Len() != 0 || value.Cost(x.s, 5) != 0 {
			t.Errorf("%v: put %v", x.s, s)
		}
		if s, ok := value.Get(r, x.s); s != x.s || ok || r.Left() != 64 {
			t.Errorf("%v: got %v", x.s, s)
		}
	}
}

// put is a state behind v, and the bits that tell v.
func put(s value.State, v uint64) (value.State, string) {
	w := bits.NewWriter()
	s = value.Put(w, s, v)
	b, r := "", bits.NewReader(w.Bytes())
	for range w.Len() {
		x, _ := r.Get(1)
		b += string(rune('0' + x))
	}
	return s, b
}

func TestWays(t *testing.T) {
	for _, x := range []struct {
		s    value.State
		v    uint64
		want value.State
		bits string
	}{
		// no window: a window of its own
		{value.State{N: 1, V: 0, Lead: 64}, 0b101 << 8, value.State{N: 2, V: 0b101 << 8, Lead: 53, Trail: 8}, "11" + "110101" + "000010" + "101"},
		{value.State{N: 1, V: 9, Lead: 64}, 9, value.State{N: 2, V: 9, Lead: 64}, "0"},
		// a window: in it, at its ends, and out of it
		{value.State{N: 5, V: 0, Lead: 53, Trail: 8}, 0b010 << 8, value.State{N: 6, V: 0b010 << 8, Lead: 53, Trail: 8}, "10" + "010"},
		{value.State{N: 5, V: 0, Lead: 53, Trail: 8}, 0b101 << 8, value.State{N: 6, V: 0b101 << 8, Lead: 53, Trail: 8}, "10" + "101"},
		{value.State{N: 5, V: 0, Lead: 53, Trail: 8}, 1 << 7, value.State{N: 6, V: 1 << 7, Lead: 56, Trail: 7}, "11" + "111000" + "000000" + "1"},
		{value.State{N: 5, V: 0, Lead: 53, Trail: 8}, 1 << 11, value.State{N: 6, V: 1 << 11, Lead: 52, Trail: 11}, "11" + "110100" + "000000" + "1"},
		{value.State{N: 5, V: 6, Lead: 53, Trail: 8}, 6, value.State{N: 6, V: 6, Lead: 53, Trail: 8}, "0"},
		// a window of one bit, and of all
		{value.State{N: 2, V: 1, Lead: 63}, 0, value.State{N: 3, V: 0, Lead: 63}, "101"},
		{value.State{N: 2, V: 0, Lead: 64}, 1<<63 | 1, value.State{N: 3, V: 1<<63 | 1}, "11" + "000000" + "111111" + "1" + digits(0, 62) + "1"},
		{value.State{N: 2, V: 0}, 5, value.State{N: 3, V: 5}, "10" + digits(5, 64)},
		// the first one: the window stays
		{value.State{N: 0, V: 77, Lead: 10, Trail: 20}, 3, value.State{N: 1, V: 3, Lead: 10, Trail: 20}, digits(3, 64)},
		{value.State{N: 0, V: 77, Lead: 10, Trail: 20}, 77, value.State{N: 1, V: 77, Lead: 10, Trail: 20}, digits(77, 64)},
	} {
		s, b := put(x.s, x.v)
		if s != x.want || b != x.bits || value.Cost(x.s, x.v) != len(x.bits) {
			t.Errorf("%v %d: %v %s", x.s, x.v, s, b)
		}
		w := bits.NewWriter()
		value.Put(w, x.s, x.v)
		if got, ok := value.Get(bits.NewReader(w.Bytes()), x.s); !ok || got != x.want {
			t.Errorf("%v %d: got %v %v", x.s, x.v, got, ok)
		}
	}
}

// digits are the low n bits of v.
func digits(v uint64, n int) string {
	s := ""
	for i := n - 1; i >= 0; i-- {
		s += string(rune('0' + v>>uint(i)&1))
	}
	return s
}

// What Put does not put is not got, and nothing is read.
func TestBitsThatPutDoesNotPut(t *testing.T) {
	window := value.State{N: 3, V: 5, Lead: 53, Trail: 8}
	no := value.State{N: 3, V: 5, Lead: 64}
	for _, x := range []struct {
		s    value.State
		bits string
	}{
		{window, ""}, {window, "1"}, {window, "10"}, {window, "1011"}, {window, "11"}, {window, "11000000"}, {window, "1100000000000"}, {window, "11110101000001" + "1"},
		{window, "10" + "000"},                     // nothing changed
		{no, "10" + "111111111111111111111111"},    // no window
		{window, "11" + "110101000010" + "101"},    // it is in the window
		{window, "11" + "110101000010" + "001"},    // not its highest 1
		{window, "11" + "110100000010" + "110"},    // not its lowest 1
		{no, "11" + "111111000001" + "11"},         // beyond 64 bits
		{no, "11" + "000001111111" + ones(63)},     // likewise
		{no, "11" + "000001111111" + ones(64)},     // likewise
		{no, "11" + "000000111111" + ones(63)},     // too few
		{value.State{Lead: 64}, digits(5, 63)},     // too few of a first one
		{window, "11" + "110000000000" + "0"},      // no 1 at all
		{window, "11" + "110101000000" + "1"},      // one bit of the window
		{window, "11" + "110111" + "000000" + "1"}, // likewise
	} {
		w := bits.NewWriter()
		for range (8 - len(x.bits)%8) % 8 {
			w.Put(1, 1)
		}
		ahead := w.Len()
		for _, b := range x.bits {
			w.Put(uint64(b-'0'), 1)
		}
		r := bits.NewReader(w.Bytes())
		r.Get(ahead)
		if s, ok := value.Get(r, x.s); ok || s != x.s || r.Left() != len(x.bits) {
			t.Errorf("%v %s: %v, %d left", x.s, x.bits, s, r.Left())
		}
	}
}

func ones(n int) string { return digits(^uint64(0), n) }

func someValues(r *rand.Rand) []uint64 {
	l := make([]uint64, r.Intn(40))
	v := r.Uint64()
	for i := range l {
		switch r.Intn(6) {
		case 0:
			v = r.Uint64()
		case 1:
			v = math.Float64bits(float64(r.Intn(1000)) / 8)
		case 2:
			v ^= 1<<r.Intn(64) | 1<<r.Intn(64)
		case 3:
			v = []uint64{0, math.MaxUint64, 1, 1 << 63}[r.Intn(4)]
		case 4:
			v ^= uint64(r.Intn(256)) << 20
		}
		l[i] = v
	}
	return l
}

func TestWhatWasPutIsGot(t *testing.T) {
	rnd := rand.New(rand.NewSource(1))
	for range 2000 {
		l := someValues(rnd)
		w := bits.NewWriter()
		states := []value.State{start}
		for _, x := range l {
			s, n := states[len(states)-1], w.Len()
			states = append(states, value.Put(w, s, x))
			if w.Len()-n != value.Cost(s, x) || !value.Valid(states[len(states)-1]) {
				t.Fatalf("%v %d: %d bits", s, x, w.Len()-n)
			}
		}
		r := bits.NewReader(w.Bytes())
		for i := range l {
			if s, ok := value.Get(r, states[i]); !ok || s != states[i+1] || s.V != l[i] {
				t.Fatalf("%v: %v at %d", l, s, i)
			}
		}
		if s := value.All(l); s != w.Bytes() {
			t.Fatalf("%v: %q", l, s)
		}
		if got, ok := value.Read(w.Bytes(), len(l)); !ok || !slices.Equal(got, l) {
			t.Fatalf("%v: %v", l, got)
		}
	}
}

func TestRead(t *testing.T) {
	s := value.All([]uint64{7, 7, 7})
	for n := range 12 {
		got, ok := value.Read(s, n)
		// behind the first one there are eight bits 0: each may be a value, or filling
		if want := n >= 2 && n <= 9; ok != want || len(got) != map[bool]int{true: n}[ok] {
			t.Errorf("%d: %v", n, got)
		}
	}
	for _, x := range []struct {
		s string
		n int
	}{{s, -1}, {s, math.MinInt}, {s, 10001}, {s, math.MaxInt}, {s + "\x00", 3}, {s[:7], 1}, {"", 1}, {"\x00", 0}, {s[:8] + "\x01", 3}} {
		if got, ok := value.Read(x.s, x.n); ok || len(got) != 0 {
			t.Errorf("%q %d: %v", x.s, x.n, got)
		}
	}
	if got, ok := value.Read("", 0); !ok || len(got) != 0 {
		t.Error("no values")
	}
	if got, ok := value.Read(value.All(make([]uint64, 10000)), 10000); !ok || len(got) != 10000 {
		t.Error("10000 values")
	}
	if _, ok := value.Read(value.All(make([]uint64, 10001)), 10001); ok {
		t.Error("10001 values")
	}
}

// Of any bytes: what is read is what All makes.
func TestOnlyAllIsRead(t *testing.T) {
	r := rand.New(rand.NewSource(4))
	for range 5000 {
		b := []byte(value.All(someValues(r)))
		if len(b) > 0 && r.Intn(2) == 0 {
			b[r.Intn(len(b))] ^= 1 << r.Intn(8)
		}
		for n := range 45 {
			if l, ok := value.Read(string(b), n); ok && value.All(l) != string(b) {
				t.Fatalf("%q: %v", b, l)
			}
		}
	}
}
