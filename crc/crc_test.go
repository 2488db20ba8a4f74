package crc_test

import (
	"hash/crc32"
	"math/rand"
	"strings"
	"testing"

	"alluvium/crc"
)

// slow is the check as the chapter tells it, bit by bit.
func slow(b string) uint32 {
	c := ^uint32(0)
	for i := range len(b) {
		c ^= uint32(b[i])
		for range 8 {
			low := c & 1
			c /= 2
			if low == 1 {
				c ^= 2197175160
			}
		}
	}
	return ^c
}

func texts() []string {
	r := rand.New(rand.NewSource(1))
	l := []string{"", "a", "\x00", "\xff", "\x80", "123456789", strings.Repeat("\x00", 32), strings.Repeat("\xff", 32)}
	for n := range 200 {
		b := make([]byte, n)
		r.Read(b)
		l = append(l, string(b))
	}
	return l
}

func TestOf(t *testing.T) {
	if c := crc.Of("123456789"); c != 3808858755 {
		t.Errorf("123456789: %x", c)
	}
	table := crc32.MakeTable(crc32.Castagnoli)
	for _, s := range texts() {
		if c := crc.Of(s); c != slow(s) || c != crc32.Checksum([]byte(s), table) {
			t.Errorf("%q: %x", s, c)
		}
	}
}

func TestOnIsOfTheWhole(t *testing.T) {
	for _, s := range texts() {
		for i := range len(s) + 1 {
			if c := crc.On(crc.Of(s[:i]), s[i:]); c != crc.Of(s) {
				t.Fatalf("%q at %d: %x", s, i, c)
			}
		}
	}
	for _, c := range []uint32{0, 1, 1 << 31, ^uint32(0), 0xe3069283} {
		if got := crc.On(c, ""); got != c {
			t.Errorf("nothing behind %x: %x", c, got)
		}
		if a, b := crc.On(c, "xyz"), crc.On(crc.On(c, "x"), "yz"); a != b {
			t.Errorf("%x: %x, %x", c, a, b)
		}
	}
}

func TestTail(t *testing.T) {
	if s := crc.Tail("123456789"); s != "\x83\x92\x06\xe3" {
		t.Errorf("%q", s)
	}
	for _, s := range texts() {
		c := slow(s)
		if got := crc.Tail(s); got != string([]byte{byte(c), byte(c >> 8), byte(c >> 16), byte(c >> 24)}) {
			t.Errorf("%q: %q", s, got)
		}
	}
}

func TestGood(t *testing.T) {
	for _, s := range texts() {
		if b, ok := crc.Good(s + crc.Tail(s)); b != s || !ok {
			t.Errorf("%q: %q %v", s, b, ok)
		}
	}
	for _, s := range []string{"", "\x00", "\x00\x00\x00", "abcd", "\x00\x00\x00\x01", "123456789\xe3\x06\x92\x83", "x123456789\x83\x92\x06\xe3"} {
		if b, ok := crc.Good(s); b != "" || ok {
			t.Errorf("%q: %q", s, b)
		}
	}
	if b, ok := crc.Good("\x00\x00\x00\x00"); b != "" || !ok {
		t.Error("the check of nothing")
	}
}

// Bytes of which up to four neighbours are others are always told.
func TestNeighboursAreTold(t *testing.T) {
	r := rand.New(rand.NewSource(2))
	for _, s := range texts()[8:60] {
		whole := s + crc.Tail(s)
		for at := range len(whole) {
			for n := 1; n <= 4 && at+n <= len(whole); n++ {
				b := []byte(whole)
				for i := at; i < at+n; i++ {
					b[i] ^= byte(1 + r.Intn(255))
				}
				if _, ok := crc.Good(string(b)); ok {
					t.Fatalf("%q: %q", whole, b)
				}
			}
		}
	}
}
