package num_test

import (
	"math"
	"math/rand"
	"strings"
	"testing"

	"alluvium/num"
)

func numbers() []uint64 {
	l := []uint64{0, 1, 2, 127, 128, 129, 300, 16383, 16384, math.MaxInt64, 1 << 63, math.MaxUint64 - 1, math.MaxUint64}
	r := rand.New(rand.NewSource(1))
	for i := range 64 {
		l = append(l, 1<<i, 1<<i-1, 1<<i+1, r.Uint64()>>i)
	}
	return l
}

func TestSmall(t *testing.T) {
	for n, want := range map[uint64]string{0: "\x00", 1: "\x01", 127: "\x7f", 128: "\x80\x01", 300: "\xac\x02", math.MaxUint64: "\xff\xff\xff\xff\xff\xff\xff\xff\xff\x01"} {
		if s := num.Small(n); s != want {
			t.Errorf("%d: %q", n, s)
		}
	}
	for _, n := range numbers() {
		c := num.Cursor{S: num.Small(n) + "\x80rest"}
		if v := c.Small(); v != n || c.Bad || c.S != "\x80rest" {
			t.Errorf("%d: %d %q", n, v, c.S)
		}
	}
}

func TestNoSmall(t *testing.T) {
	for _, s := range []string{"", "\x80", "\xff\xff", "\x80\x00", "\x81\x80\x00", "\x80\x80", "\xff\xff\xff\xff\xff\xff\xff\xff\xff", "\xff\xff\xff\xff\xff\xff\xff\xff\xff\x02", "\xff\xff\xff\xff\xff\xff\xff\xff\xff\x81\x00", "\x80\x80\x80\x80\x80\x80\x80\x80\x80\x00", "\x80\x80\x80\x80\x80\x80\x80\x80\x80\x80\x01"} {
		c := num.Cursor{S: s}
		if v := c.Small(); v != 0 || !c.Bad || c.S != s {
			t.Errorf("%q: %d %v", s, v, c.Bad)
		}
	}
}

func TestWide(t *testing.T) {
	if s := num.Wide(0x0102030405060708); s != "\x08\x07\x06\x05\x04\x03\x02\x01" {
		t.Errorf("%q", s)
	}
	for _, n := range numbers() {
		c := num.Cursor{S: num.Wide(n) + "rest"}
		if v := c.Wide(); v != n || c.Bad || c.S != "rest" || len(num.Wide(n)) != 8 {
			t.Errorf("%d: %d %q", n, v, c.S)
		}
	}
	if c := (num.Cursor{S: num.Wide(77)}); c.Wide() != 77 || !c.Done() {
		t.Error("eight bytes, and no more")
	}
	for n := range 8 {
		s := strings.Repeat("\x01", n)
		c := num.Cursor{S: s}
		if v := c.Wide(); v != 0 || !c.Bad || c.S != s {
			t.Errorf("%q: %d", s, v)
		}
	}
}

func TestText(t *testing.T) {
	for _, s := range []string{"", "a", "\x00\xff", strings.Repeat("x", 127), strings.Repeat("y", 128), strings.Repeat("z", 20000)} {
		w := num.Text(s)
		if w != num.Small(uint64(len(s)))+s {
			t.Errorf("%q: %q", s, w)
		}
		for _, most := range []int{len(s), len(s) + 1, math.MaxInt} {
			c := num.Cursor{S: w + "rest"}
			if got := c.Text(most); got != s || c.Bad || c.S != "rest" {
				t.Errorf("%q: %q %q", s, got, c.S)
			}
		}
		if c := (num.Cursor{S: w}); c.Text(len(s)) != s || !c.Done() {
			t.Errorf("%q, and no more", s)
		}
		for _, most := range []int{len(s) - 1, -1, math.MinInt} {
			c := num.Cursor{S: w}
			if got := c.Text(most); got != "" || !c.Bad || c.S != w {
				t.Errorf("at most %d: %q", most, got)
			}
		}
	}
	for _, s := range []string{"", "\x01", "\x05abcd", "\x80\x00", "\xff\xff\xff\xff\xff\xff\xff\xff\xff\x01abc", "\xff\xff\xff\xff\xff\xff\xff\xff\x7fabc"} {
		c := num.Cursor{S: s}
		if got := c.Text(math.MaxInt); got != "" || !c.Bad || c.S != s {
			t.Errorf("%q: %q", s, got)
		}
	}
}

func TestFixed(t *testing.T) {
	for _, x := range []struct {
		s    string
		n    int
		want string
	}{
		{"ab", 4, "ab\x00\x00\x02"}, {"abcdef", 4, "abcd\x04"}, {"abcd", 4, "abcd\x04"}, {"", 3, "\x00\x00\x00\x00"}, {"abc", 0, "\x00"}, {"abc", -7, "\x00"},
		{"a\x00", 3, "a\x00\x00\x02"}, {"a", 300, "a" + strings.Repeat("\x00", 254) + "\x01"}, {strings.Repeat("k", 400), math.MaxInt, strings.Repeat("k", 255) + "\xff"},
	} {
		if got := num.Fixed(x.s, x.n); got != x.want {
			t.Errorf("%q of %d: %q", x.s, x.n, got)
		}
		c := num.Cursor{S: x.want + "rest"}
		if got := c.Fixed(x.n); got != x.s[:len(got)] || num.Fixed(got, x.n) != x.want || c.Bad || c.S != "rest" {
			t.Errorf("%q of %d: %q %q", x.want, x.n, got, c.S)
		}
	}
	if c := (num.Cursor{S: "ab\x00\x00\x02"}); c.Fixed(4) != "ab" || !c.Done() {
		t.Error("five bytes, and no more")
	}
	for _, s := range []string{"", "ab\x00\x00", "ab\x00\x00\x05", "ab\x00\x00\xff", "ab\x00\x00\x01", "\x00\x00\x00a\x00", "ab\x00c\x02"} {
		c := num.Cursor{S: s}
		if got := c.Fixed(4); got != "" || !c.Bad || c.S != s {
			t.Errorf("%q: %q", s, got)
		}
	}
	for _, n := range []int{0, -1} {
		c := num.Cursor{S: "\x01"}
		if got := c.Fixed(n); got != "" || !c.Bad || c.S != "\x01" {
			t.Errorf("of %d: %q", n, got)
		}
	}
}

func TestTake(t *testing.T) {
	c := num.Cursor{S: "abcdef"}
	if a, b := c.Take(0), c.Take(4); a != "" || b != "abcd" || c.S != "ef" || c.Bad || c.Done() {
		t.Errorf("%q %q %q", a, b, c.S)
	}
	for _, n := range []int{3, -1, math.MaxInt, math.MinInt} {
		c := num.Cursor{S: "ef"}
		if got := c.Take(n); got != "" || !c.Bad || c.S != "ef" || c.Done() {
			t.Errorf("%d: %q", n, got)
		}
	}
	if got := c.Take(2); got != "ef" || !c.Done() {
		t.Errorf("%q", got)
	}
}

func TestBadStaysBad(t *testing.T) {
	s := num.Small(5) + num.Wide(6) + "behind it"
	c := num.Cursor{S: s, Bad: true}
	if c.Small() != 0 || c.Wide() != 0 || c.Text(100) != "" || c.Fixed(0) != "" || c.Take(1) != "" || c.S != s || !c.Bad {
		t.Errorf("%q", c.S)
	}
	if e := (&num.Cursor{Bad: true}); e.Done() || e.Take(0) != "" {
		t.Error("a bad one is done")
	}
	if e := (&num.Cursor{}); !e.Done() {
		t.Error("an empty one is not done")
	}
}

func TestZig(t *testing.T) {
	for n, want := range map[int64]uint64{0: 0, -1: 1, 1: 2, -2: 3, 2: 4, math.MaxInt64: math.MaxUint64 - 1, math.MinInt64: math.MaxUint64} {
		if z := num.Zig(n); z != want {
			t.Errorf("%d: %d", n, z)
		}
	}
	for _, n := range numbers() {
		if num.Zig(num.Zag(n)) != n || num.Zag(num.Zig(int64(n))) != int64(n) {
			t.Errorf("%d", n)
		}
	}
}

// Whatever the bytes are: what is read is what is written so.
func TestOnlyWhatIsWrittenIsRead(t *testing.T) {
	r := rand.New(rand.NewSource(3))
	for range 20000 {
		b := make([]byte, r.Intn(14))
		for i := range b {
			b[i] = []byte{0, 1, 2, 127, 128, 129, 255}[r.Intn(7)]
		}
		s := string(b)
		small, text, fixed := num.Cursor{S: s}, num.Cursor{S: s}, num.Cursor{S: s}
		if v := small.Small(); !small.Bad && num.Small(v)+small.S != s {
			t.Fatalf("%q: %d", s, v)
		}
		if v := text.Text(9); !text.Bad && num.Text(v)+text.S != s {
			t.Fatalf("%q: %q", s, v)
		}
		if v := fixed.Fixed(3); !fixed.Bad && num.Fixed(v, 3)+fixed.S != s {
			t.Fatalf("%q: %q", s, v)
		}
	}
}
