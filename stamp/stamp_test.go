package stamp_test

import (
	"math"
	"math/rand"
	"slices"
	"testing"

	"alluvium/bits"
	"alluvium/stamp"
)

func TestExample(t *testing.T) {
	w := bits.NewWriter()
	var s stamp.State
	for i, x := range []struct {
		t    int64
		cost int
		want stamp.State
	}{{1000, 64, stamp.State{N: 1, T: 1000}}, {1010, 9, stamp.State{N: 2, T: 1010, D: 10}}, {1020, 1, stamp.State{N: 3, T: 1020, D: 10}}} {
		n := w.Len()
		if c := stamp.Cost(s, x.t); c != x.cost {
			t.Errorf("%d: costs %d", i, c)
		}
		if s = stamp.Put(w, s, x.t); s != x.want || w.Len()-n != x.cost {
			t.Errorf("%d: %v, %d bits", i, s, w.Len()-n)
		}
	}
}

// behind is a state behind which a time of change c is T + D + c.
var behind = stamp.State{N: 2, T: 5000, D: 7}

func TestClasses(t *testing.T) {
	for _, x := range []struct {
		c    int64
		bits uint64
		n    int
	}{
		{0, 0, 1},
		{-63, 0b10<<7 | 0, 9}, {64, 0b10<<7 | 127, 9}, {1, 0b10<<7 | 64, 9}, {-1, 0b10<<7 | 62, 9},
		{-64, 0b110<<9 | 191, 12}, {65, 0b110<<9 | 320, 12}, {-255, 0b110<<9 | 0, 12}, {256, 0b110<<9 | 511, 12},
		{-256, 0b1110<<12 | 1791, 16}, {257, 0b1110<<12 | 2304, 16}, {-2047, 0b1110 << 12, 16}, {2048, 0b1110<<12 | 4095, 16},
	} {
		w := bits.NewWriter()
		s := stamp.Put(w, behind, 5007+x.c)
		v, _ := bits.NewReader(w.Bytes()).Get(x.n)
		if w.Len() != x.n || v != x.bits || s != (stamp.State{N: 3, T: 5007 + x.c, D: 7 + x.c}) || stamp.Cost(behind, 5007+x.c) != x.n {
			t.Errorf("%d: %b of %d bits, %v", x.c, v, w.Len(), s)
		}
	}
	for _, c := range []int64{-2048, 2049, 1 << 40, math.MaxInt64, math.MinInt64} {
		w := bits.NewWriter()
		stamp.Put(w, behind, 5007+c)
		r := bits.NewReader(w.Bytes())
		m, _ := r.Get(4)
		v, _ := r.Get(64)
		if w.Len() != 68 || m != 0b1111 || int64(v) != c || stamp.Cost(behind, 5007+c) != 68 {
			t.Errorf("%d: %b %d of %d bits", c, m, int64(v), w.Len())
		}
	}
}

// What Put does not put is not got, and nothing is read.
func TestBitsThatPutDoesNotPut(t *testing.T) {
	for _, x := range []struct {
		mark  uint64
		marks int
		v     uint64
		size  int
	}{
		{0b10, 2, 63, 7}, {0b110, 3, 255, 9}, {0b110, 3, 255 - 63, 9}, {0b110, 3, 255 + 64, 9}, {0b1110, 4, 2047 - 255, 12}, {0b1110, 4, 2047 + 256, 12},
		{0b1111, 4, 0, 64}, {0b1111, 4, 2048, 64}, {0b1111, 4, ^uint64(0) - 2046, 64},
		{0b10, 2, 0, 6}, {0b110, 3, 0, 5}, {0b1110, 4, 0, 4}, {0b1111, 4, 9999, 60},
	} {
		w := bits.NewWriter()
		w.Put(0, 8-(x.marks+x.size)%8)
		w.Put(x.mark, x.marks)
		w.Put(x.v, x.size)
		r := bits.NewReader(w.Bytes())
		r.Get(w.Len() - x.marks - x.size)
		left := r.Left()
		if s, ok := stamp.Get(r, behind); ok || s != behind || r.Left() != left {
			t.Errorf("%b, %d of %d bits: %v, %d left of %d", x.mark, x.v, x.size, s, r.Left(), left)
		}
	}
	r := bits.NewReader("\xff\xff\xff\xff\xff\xff\xff")
	if s, ok := stamp.Get(r, stamp.State{}); ok || s != (stamp.State{}) || r.Left() != 56 {
		t.Error("a first time of 56 bits")
	}
	if s, ok := stamp.Get(bits.NewReader(""), behind); ok || s != behind {
		t.Error("a time of no bits")
	}
}

func someTimes(r *rand.Rand) []int64 {
	l := make([]int64, r.Intn(40))
	at, d := r.Int63n(1<<50), r.Int63n(1000)
	for i := range l {
		switch r.Intn(8) {
		case 0:
			l[i] = int64(r.Uint64())
		case 1:
			l[i] = []int64{math.MinInt64, math.MaxInt64, 0, -1}[r.Intn(4)]
		default:
			d += int64(r.NormFloat64() * math.Pow(10, float64(r.Intn(5))))
			at += d
			l[i] = at
		}
	}
	return l
}

func TestWhatWasPutIsGot(t *testing.T) {
	rnd := rand.New(rand.NewSource(1))
	for range 2000 {
		l := someTimes(rnd)
		w := bits.NewWriter()
		states := []stamp.State{{}}
		for _, x := range l {
			s, n := states[len(states)-1], w.Len()
			states = append(states, stamp.Put(w, s, x))
			if w.Len()-n != stamp.Cost(s, x) {
				t.Fatalf("%v %d: %d bits", s, x, w.Len()-n)
			}
		}
		r := bits.NewReader(w.Bytes())
		for i := range l {
			s, ok := stamp.Get(r, states[i])
			if !ok || s != states[i+1] || s.T != l[i] {
				t.Fatalf("%v: %v at %d", l, s, i)
			}
		}
		if s := stamp.All(l); s != w.Bytes() {
			t.Fatalf("%v: %q", l, s)
		}
		if got, ok := stamp.Read(w.Bytes(), len(l)); !ok || !slices.Equal(got, l) {
			t.Fatalf("%v: %v", l, got)
		}
	}
}

// A state may be anything.
func TestAnyState(t *testing.T) {
	for _, s := range []stamp.State{{N: -1, T: 5, D: 2}, {N: 0, T: 9, D: 9}, {N: 7, T: math.MaxInt64, D: math.MaxInt64}, {N: 1, T: math.MinInt64, D: -5}} {
		for _, x := range []int64{0, 7, math.MinInt64, math.MaxInt64} {
			w := bits.NewWriter()
			want := stamp.State{N: s.N + 1, T: x, D: x - s.T}
			if s.N == 0 {
				want.D = 0
			}
			if got := stamp.Put(w, s, x); got != want {
				t.Errorf("%v %d: %v", s, x, got)
			}
			if got, ok := stamp.Get(bits.NewReader(w.Bytes()), s); !ok || got != want {
				t.Errorf("%v %d: got %v", s, x, got)
			}
		}
	}
}

func TestRead(t *testing.T) {
	l := []int64{1000, 1010, 1020}
	s := stamp.All(l)
	for n := range 12 {
		got, ok := stamp.Read(s, n)
		// the last time is one bit 0, and behind it there are six of filling: each may be a time, or filling
		if want := n >= 2 && n <= 9; ok != want || (ok && !slices.Equal(got[:2], l[:2])) || (!ok && len(got) != 0) {
			t.Errorf("%d: %v", n, got)
		}
	}
	for _, x := range []struct {
		s string
		n int
	}{{s, -1}, {s, math.MinInt}, {s, 10001}, {s, math.MaxInt}, {s + "\x00", 3}, {s[:len(s)-1], 3}, {"", 1}, {"\x00", 0}, {"a", 0}, {s[:9] + "\xff", 3}, {s[:9] + string([]byte{s[9] | 1}), 3}} {
		if got, ok := stamp.Read(x.s, x.n); ok || len(got) != 0 {
			t.Errorf("%q %d: %v", x.s, x.n, got)
		}
	}
	if got, ok := stamp.Read("", 0); !ok || len(got) != 0 {
		t.Error("no times")
	}
	many := make([]int64, 10000)
	if got, ok := stamp.Read(stamp.All(many), 10000); !ok || len(got) != 10000 {
		t.Error("10000 times")
	}
	if _, ok := stamp.Read(stamp.All(make([]int64, 10001)), 10001); ok {
		t.Error("10001 times")
	}
}

// Of any bytes: what is read is what All makes.
func TestOnlyAllIsRead(t *testing.T) {
	r := rand.New(rand.NewSource(4))
	for range 5000 {
		b := []byte(stamp.All(someTimes(r)))
		if len(b) > 0 && r.Intn(2) == 0 {
			b[r.Intn(len(b))] ^= 1 << r.Intn(8)
		}
		for n := range 45 {
			if l, ok := stamp.Read(string(b), n); ok && stamp.All(l) != string(b) {
				t.Fatalf("%q: %v", b, l)
			}
		}
	}
}
