package bits_test

import (
	"math"
	"math/rand"
	"strings"
	"testing"

	"alluvium/bits"
)

// digits are the low n bits of v as text.
func digits(v uint64, n int) string {
	s := ""
	for i := n - 1; i >= 0; i-- {
		s += string(rune('0' + v>>uint(i)&1))
	}
	return s
}

// packed are bits of a text, as bytes.
func packed(s string) string {
	s += strings.Repeat("0", (8-len(s)%8)%8)
	b := make([]byte, len(s)/8)
	for i := range len(s) {
		b[i/8] = b[i/8]*2 + s[i] - '0'
	}
	return string(b)
}

func TestExample(t *testing.T) {
	w := bits.NewWriter()
	w.Put(5, 3)
	w.Put(1, 2)
	if w.Len() != 5 || w.Bytes() != "\xa8" {
		t.Errorf("%d %q", w.Len(), w.Bytes())
	}
}

func TestNothing(t *testing.T) {
	w := bits.NewWriter()
	if w.Len() != 0 || w.Bytes() != "" {
		t.Error("a new writer has bits")
	}
	w.Put(^uint64(0), 0)
	w.Put(^uint64(0), -1)
	w.Put(^uint64(0), math.MinInt)
	if w.Len() != 0 || w.Bytes() != "" {
		t.Error("no bits are put as some")
	}
	r := bits.NewReader("")
	if v, ok := r.Get(0); v != 0 || !ok {
		t.Error("no bits are not got")
	}
	if v, ok := r.Get(-5); v != 0 || !ok {
		t.Error("below 0 is not as 0")
	}
	if v, ok := r.Get(1); v != 0 || ok || r.Left() != 0 || !r.Clean() {
		t.Error("a bit of nothing")
	}
}

func TestAbove64IsAs64(t *testing.T) {
	for _, n := range []int{64, 65, 1000, math.MaxInt} {
		w := bits.NewWriter()
		w.Put(1, 1)
		w.Put(0x8123456789abcdef, n)
		if w.Len() != 65 {
			t.Errorf("%d: %d", n, w.Len())
		}
		r := bits.NewReader(w.Bytes())
		r.Get(1)
		if v, ok := r.Get(n); v != 0x8123456789abcdef || !ok || r.Left() != 7 {
			t.Errorf("%d: %x %v %d", n, v, ok, r.Left())
		}
	}
}

func TestWhatWasPutIsGot(t *testing.T) {
	rnd := rand.New(rand.NewSource(1))
	for range 300 {
		w := bits.NewWriter()
		var vs []uint64
		var ns []int
		all := ""
		for range rnd.Intn(30) {
			v, n := rnd.Uint64(), rnd.Intn(65)
			w.Put(v, n)
			vs, ns, all = append(vs, v), append(ns, n), all+digits(v, n)
			if w.Len() != len(all) || w.Bytes() != packed(all) {
				t.Fatalf("%d %q: %q", w.Len(), all, w.Bytes())
			}
		}
		r := bits.NewReader(w.Bytes())
		left := len(w.Bytes()) * 8
		for i, n := range ns {
			v, ok := r.Get(n)
			if !ok || digits(v, 64) != strings.Repeat("0", 64-n)+digits(vs[i], n) {
				t.Fatalf("%d bits: %x, not %x", n, v, vs[i])
			}
			if left -= n; r.Left() != left {
				t.Fatalf("%d left, not %d", r.Left(), left)
			}
		}
		if !r.Clean() {
			t.Fatal("what is left is not clean")
		}
	}
}

func TestTooFew(t *testing.T) {
	r := bits.NewReader("\xab\xcd")
	r.Get(3)
	if v, ok := r.Get(14); v != 0 || ok || r.Left() != 13 {
		t.Errorf("%d %v %d", v, ok, r.Left())
	}
	if v, ok := r.Get(13); v != 0xabcd&0x1fff || !ok || r.Left() != 0 {
		t.Errorf("%x %v", v, ok)
	}
}

func TestClean(t *testing.T) {
	for s, want := range map[string][9]bool{
		"\x00": {false, true, true, true, true, true, true, true, true},
		"\x10": {false, false, false, false, true, true, true, true, true},
		"\x01": {false, false, false, false, false, false, false, false, true},
	} {
		for n, clean := range want {
			r := bits.NewReader(s)
			r.Get(n)
			if r.Clean() != clean || r.Left() != 8-n {
				t.Errorf("%q behind %d bits: %v", s, n, r.Clean())
			}
		}
	}
	r := bits.NewReader("\x00\x00")
	for n := range 17 {
		if r.Clean() != (n > 8) {
			t.Errorf("%d bits read: %v", n, r.Clean())
		}
		r.Get(1)
	}
}

func TestLeadTrail(t *testing.T) {
	if bits.Lead(0) != 64 || bits.Trail(0) != 64 {
		t.Error("of 0")
	}
	for i := range 64 {
		v := uint64(1) << i
		if bits.Lead(v) != 63-i || bits.Trail(v) != i {
			t.Errorf("of bit %d", i)
		}
		if bits.Lead(v|1) != 63-i || bits.Trail(v|1<<63) != i {
			t.Errorf("of bit %d, and another one", i)
		}
	}
}
