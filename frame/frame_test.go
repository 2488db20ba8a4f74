package frame_test

import (
	"fmt"
	"math"
	"math/rand"
	"slices"
	"strings"
	"testing"

	"alluvium/api"
	"alluvium/crc"
	"alluvium/frame"
	"alluvium/num"
)

func TestExample(t *testing.T) {
	s := frame.Put("a")
	if s != "\x01a"+crc.Tail("\x01a") || len(s) != 6 {
		t.Errorf("%q", s)
	}
	if b, rest, shape := frame.Get(s[:3], 10); b != "" || rest != s[:3] || shape != frame.Short {
		t.Errorf("%q %q %v", b, rest, shape)
	}
	if frame.Whole != 0 || frame.Short != 1 || frame.Wrong != 2 {
		t.Error("the shapes")
	}
}

func TestGet(t *testing.T) {
	for _, b := range []string{"", "a", strings.Repeat("b", 127), strings.Repeat("\xff", 128), strings.Repeat("d", 20000)} {
		s := frame.Put(b)
		if s != num.Small(uint64(len(b)))+b+crc.Tail(num.Small(uint64(len(b)))+b) {
			t.Errorf("%q", s)
		}
		for _, most := range []int{len(b), len(b) + 1, math.MaxInt} {
			for _, behind := range []string{"", "x", "\x80"} {
				if got, rest, shape := frame.Get(s+behind, most); got != b || rest != behind || shape != frame.Whole {
					t.Errorf("%d bytes, at most %d: %v", len(b), most, shape)
				}
			}
		}
		for _, most := range []int{len(b) - 1, -1, math.MinInt} {
			if got, rest, shape := frame.Get(s, most); got != "" || rest != s || shape != frame.Wrong {
				t.Errorf("%d bytes, at most %d: %v", len(b), most, shape)
			}
		}
		for i := range len(s) {
			if i > 200 && i < len(s)-10 {
				continue
			}
			if got, rest, shape := frame.Get(s[:i], math.MaxInt); got != "" || rest != s[:i] || shape != frame.Short {
				t.Errorf("%d of %d bytes: %v", i, len(s), shape)
			}
		}
	}
}

func TestShapes(t *testing.T) {
	for _, x := range []struct {
		s     string
		most  int
		shape frame.Shape
	}{
		{"", -1, frame.Short}, {"\x80", -1, frame.Short}, {strings.Repeat("\xff", 9), 5, frame.Short}, {strings.Repeat("\xff", 10), math.MaxInt, frame.Wrong}, {strings.Repeat("\x80", 10), math.MaxInt, frame.Wrong}, {strings.Repeat("\x80", 20), math.MaxInt, frame.Wrong},
		{"\x80\x00", 5, frame.Wrong}, {"\x80\x00" + crc.Tail("\x80\x00"), 5, frame.Wrong}, {"\x81\x80\x00", 500, frame.Wrong}, {strings.Repeat("\xff", 9) + "\x02", math.MaxInt, frame.Wrong},
		{strings.Repeat("\xff", 9) + "\x01", math.MaxInt, frame.Wrong}, {strings.Repeat("\xff", 8) + "\x7f", math.MaxInt, frame.Short}, {strings.Repeat("\xff", 8) + "\x7f", math.MaxInt - 1, frame.Wrong},
		{"\x06", 5, frame.Wrong}, {"\x05", 5, frame.Short}, {"\x05abcde", 5, frame.Short}, {"\x05abcde123", 5, frame.Short}, {"\x05abcde1234", 5, frame.Wrong}, {"\x00\x00\x00\x00\x00", 5, frame.Wrong}, {"\x00\x00\x00\x00", 5, frame.Short},
	} {
		if b, rest, shape := frame.Get(x.s, x.most); b != "" || rest != x.s || shape != x.shape {
			t.Errorf("%q, at most %d: %v", x.s, x.most, shape)
		}
	}
	s := frame.Put("some bytes")
	for i := 1; i < len(s); i++ {
		b := []byte(s)
		b[i] ^= 4
		if got, rest, shape := frame.Get(string(b), 100); got != "" || rest != string(b) || shape != frame.Wrong {
			t.Errorf("%q: %v", b, shape)
		}
	}
}

func TestSplit(t *testing.T) {
	r := rand.New(rand.NewSource(1))
	for range 300 {
		var l []string
		var ends []int
		s := ""
		for range r.Intn(6) {
			b := make([]byte, r.Intn(20))
			r.Read(b)
			l = append(l, string(b))
			s += frame.Put(string(b))
			ends = append(ends, len(s))
		}
		for i := range len(s) + 1 {
			n, used := 0, 0
			for n < len(ends) && ends[n] <= i {
				used = ends[n]
				n++
			}
			want := frame.Short
			if used == i {
				want = frame.Whole
			}
			got, at, shape := frame.Split(s[:i], 20)
			if !slices.Equal(got, l[:n]) || at != used || shape != want {
				t.Fatalf("%d of %q: %q %d %v", i, s, got, at, shape)
			}
		}
		if got, at, shape := frame.Split(s+"\x80\x00", 20); !slices.Equal(got, l) || at != len(s) || shape != frame.Wrong {
			t.Fatalf("%q: %d %v", s, at, shape)
		}
		if got, at, shape := frame.Split(s+frame.Put(strings.Repeat("x", 21))+frame.Put("y"), 20); !slices.Equal(got, l) || at != len(s) || shape != frame.Wrong {
			t.Fatalf("%q: %d %v", s, at, shape)
		}
	}
	if l, n, shape := frame.Split("", -1); len(l) != 0 || n != 0 || shape != frame.Whole {
		t.Errorf("nothing: %v", shape)
	}
}

func TestHead(t *testing.T) {
	if s := frame.Head("AWAL", 2, 3); s != "AWAL\x02\x03"+crc.Tail("AWAL\x02\x03") {
		t.Errorf("%q", s)
	}
	if frame.Head("", 256+7, -1) != "\x07\xff"+crc.Tail("\x07\xff") || frame.Head("m", -256, 512) != "m\x00\x00"+crc.Tail("m\x00\x00") {
		t.Error("eight bits")
	}
}

func TestOpen(t *testing.T) {
	for _, magic := range []string{"", "A", "AWAL"} {
		for gen := range 256 {
			for flags := range 256 {
				want := fmt.Sprint(0, 0, "", api.OK)
				switch {
				case gen > 3 || flags > 3:
					want = fmt.Sprint(0, 0, "", api.ErrFuture)
				case gen == 0:
					want = fmt.Sprint(0, 0, "", api.ErrCorrupt)
				default:
					want = fmt.Sprint(gen, flags, "behind", api.OK)
				}
				g, f, rest, err := frame.Open(frame.Head(magic, gen, flags)+"behind", magic)
				if got := fmt.Sprint(g, f, rest, err); got != want {
					t.Fatalf("%d %d: %s, not %s", gen, flags, got, want)
				}
			}
		}
	}
	s := frame.Head("AWAL", 2, 1)
	if g, f, rest, err := frame.Open(s, "AWAL"); g != 2 || f != 1 || rest != "" || err != api.OK {
		t.Errorf("nothing behind: %v", err)
	}
	for _, x := range []string{"", "AWAL", s[:9], "AMET" + s[4:], frame.Head("AMET", 2, 1), "BWAL\x09\x00" + crc.Tail("AWAL\x09\x00"), "AWAL\x09\x00abcd", "AWAL\x02\x01" + crc.Tail("AWAL\x02\x02")} {
		if g, f, rest, err := frame.Open(x, "AWAL"); g != 0 || f != 0 || rest != "" || err != api.ErrCorrupt {
			t.Errorf("%q: %v", x, err)
		}
	}
	for i := range len(s) {
		b := []byte(s)
		b[i] ^= 1
		if _, _, _, err := frame.Open(string(b), "AWAL"); err != api.ErrCorrupt {
			t.Errorf("%q: %v", b, err)
		}
	}
}
