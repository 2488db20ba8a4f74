package meta_test

import (
	"math"
	"math/rand"
	"slices"
	"testing"

	"alluvium/api"
	"alluvium/frame"
	"alluvium/meta"
	"alluvium/num"
)

func TestExample(t *testing.T) {
	if s := meta.Name("wal", 7); s != "wal-000007" {
		t.Error(s)
	}
}

func upTo(from, n int) []int {
	var l []int
	for i := range n {
		l = append(l, from+i)
	}
	return l
}

func TestValid(t *testing.T) {
	for _, m := range []meta.Meta{{Gen: 1, Next: 1}, {Gen: 3, Next: 999999, Wal: 999998, Blocks: []int{0, 5, 3}}, {Gen: 2, Next: 41, Wal: 0, Blocks: upTo(1, 40)}, {Gen: 2, Next: 41, Wal: 40, Blocks: upTo(0, 40)}} {
		if !meta.Valid(m) {
			t.Errorf("%v may be", m)
		}
		for gen := 1; gen <= 3; gen++ {
			m.Gen = gen
			s, err := meta.Put(m)
			if got, also := meta.Get(s); err != api.OK || also != api.OK || !meta.Same(got, m) {
				t.Errorf("%v: %v %v", m, err, also)
			}
		}
	}
	for _, m := range []meta.Meta{
		{}, {Gen: 0, Next: 1}, {Gen: 4, Next: 1}, {Gen: -1, Next: 1}, {Gen: 1}, {Gen: 1, Next: -1, Wal: -2}, {Gen: 1, Next: 1000000}, {Gen: 1, Next: math.MaxInt}, {Gen: 1, Next: 5, Wal: 5}, {Gen: 1, Next: 5, Wal: -1}, {Gen: 1, Next: 0, Wal: 0},
		{Gen: 1, Next: 42, Blocks: upTo(1, 41)}, {Gen: 1, Next: 5, Wal: 1, Blocks: []int{1}}, {Gen: 1, Next: 5, Wal: 1, Blocks: []int{2, 3, 2}}, {Gen: 1, Next: 5, Blocks: []int{5}}, {Gen: 1, Next: 5, Blocks: []int{-1}}, {Gen: 1, Next: 5, Wal: math.MinInt}, {Gen: 1, Next: 5, Blocks: []int{math.MaxInt}},
	} {
		if meta.Valid(m) {
			t.Errorf("%v may not be", m)
		}
		if s, err := meta.Put(m); s != "" || err != api.ErrArg {
			t.Errorf("%v: %v", m, err)
		}
	}
}

func TestBytes(t *testing.T) {
	m := meta.Meta{Next: 300, Wal: 290, Blocks: []int{7, 3, 299}}
	w := num.Wide
	for i, want := range []string{w(300) + w(290) + w(3) + w(7) + w(3) + w(299), "\xac\x02\xa2\x02\x03\x07\x03\xab\x02", "\xac\x02\x0a\x03\x0e\x07\xd0\x04"} {
		m.Gen = i + 1
		if s, err := meta.Put(m); s != frame.Head("AMET", i+1, 0)+frame.Put(want) || err != api.OK {
			t.Errorf("%d: %q", i+1, s)
		}
	}
	if m.Blocks[0] != 7 || m.Blocks[2] != 299 {
		t.Error("an argument is another one")
	}
}

func TestGetErrs(t *testing.T) {
	w, h := num.Wide, func(gen int) string { return frame.Head("AMET", gen, 0) }
	for i, s := range []string{
		"", h(1), h(2), h(3), frame.Head("AWAL", 2, 0) + frame.Put("\x01\x00\x00"), frame.Head("AMET", 2, 1) + frame.Put("\x01\x00\x00"), frame.Head("AMET", 2, 3) + frame.Put("\x01\x00\x00"), frame.Head("AMET", 0, 0) + frame.Put("\x01\x00\x00"),
		h(2) + frame.Put("\x01\x00\x00") + "x", h(2) + frame.Put("\x01\x00\x00\x00"), h(2) + frame.Put("\x01\x00"), h(2) + frame.Put("\x01\x00\x01"), h(2) + frame.Put("\x01\x01\x00"), h(2) + frame.Put("\x05\x01\x02\x02\x02"), h(2) + frame.Put("\x81\x00\x00\x00"), h(2) + frame.Put("\x00\x00\x00"), h(2) + "\x03\x01\x00\x00????", h(2) + frame.Put(num.Small(1000000)+"\x00\x00"), h(2) + frame.Put("\x01\x00"+num.Small(math.MaxUint64)), h(2) + frame.Put("\x05\x01"+num.Small(1<<40)+"\x02"),
		h(1) + frame.Put(w(1)+w(0)+w(0)+w(0)), h(1) + frame.Put(w(1)+w(0)), h(1) + frame.Put(w(1)+w(1)+w(0)), h(1) + frame.Put(w(1<<63)+w(0)+w(0)), h(1) + frame.Put(w(1)+w(0)+w(1<<63)), h(1) + frame.Put("\x01\x00\x00"),
		h(3) + frame.Put("\x01\x00\x00"), h(3) + frame.Put("\x01\x02\x00"), h(3) + frame.Put("\x05\x05\x01\x00"), h(3) + frame.Put("\x05\x05\x01\x01"), h(3) + frame.Put("\x05\x05\x02\x02\x00"), h(3) + frame.Put("\x05\x05\x01\x0a"),
	} {
		if m, err := meta.Get(s); err != api.ErrCorrupt || !meta.Same(m, meta.Meta{}) {
			t.Errorf("%d: %v %v", i, m, err)
		}
	}
	for _, s := range []string{frame.Head("AMET", 4, 0), frame.Head("AMET", 2, 4) + frame.Put("\x01\x00\x00"), frame.Head("AMET", 255, 255)} {
		if m, err := meta.Get(s); err != api.ErrFuture || !meta.Same(m, meta.Meta{}) {
			t.Errorf("%q: %v %v", s, m, err)
		}
	}
	for gen := 1; gen <= 3; gen++ {
		s, _ := meta.Put(meta.Meta{Gen: gen, Next: 300, Wal: 290, Blocks: []int{7, 3, 299}})
		for i := range s {
			b := []byte(s)
			b[i] ^= 2
			for _, x := range []string{s[:i], string(b)} {
				if m, err := meta.Get(x); err != api.ErrCorrupt || !meta.Same(m, meta.Meta{}) {
					t.Errorf("%q: %v %v", x, m, err)
				}
			}
		}
	}
}

func TestWhatIsPutIsGot(t *testing.T) {
	r := rand.New(rand.NewSource(1))
	for range 2000 {
		next := 42 + r.Intn(999957)
		l := r.Perm(42)
		m := meta.Meta{Gen: 1 + r.Intn(3), Next: next, Wal: l[0], Blocks: l[1 : 1+r.Intn(41)]}
		s, err := meta.Put(m)
		got, also := meta.Get(s)
		if err != api.OK || also != api.OK || !meta.Same(got, m) {
			t.Fatalf("%v: %v", m, got)
		}
		body := []byte(s[10:])
		body[1+r.Intn(len(body)-1)] ^= byte(1 << r.Intn(8))
		n, _, _ := frame.Get(s[10:], 1000)
		b := []byte(n)
		b[r.Intn(len(b))] ^= byte(1 << r.Intn(8))
		x := s[:10] + frame.Put(string(b))
		if got, err := meta.Get(x); err == api.OK {
			if again, _ := meta.Put(got); again != x {
				t.Fatalf("%q: %v", x, got)
			}
		}
	}
}

func TestName(t *testing.T) {
	for _, x := range []struct {
		kind string
		n    int
		want string
	}{{"block", 0, "block-000000"}, {"block", 999999, "block-999999"}, {"", 12345, "-012345"}, {"a-b", 1, "a-b-000001"}, {"wal", 1000000, ""}, {"wal", -1, ""}, {"wal", math.MaxInt, ""}, {"wal", math.MinInt, ""}} {
		if s := meta.Name(x.kind, x.n); s != x.want {
			t.Errorf("%s %d: %q", x.kind, x.n, s)
		}
	}
	if meta.Temp("meta") != "tmp-meta" || meta.Temp("") != "tmp-" {
		t.Error("a name that is not done")
	}
}

func TestParse(t *testing.T) {
	for _, kind := range []string{"wal", "block"} {
		for _, n := range []int{0, 7, 123456, 999999} {
			if k, i, ok := meta.Parse(meta.Name(kind, n)); k != kind || i != n || !ok {
				t.Errorf("%s %d: %s %d", kind, n, k, i)
			}
		}
	}
	for _, s := range []string{"", "wal", "wal-", "wal-7", "wal-00007", "wal-0000007", "wal-1000000", "wal--00007", "wal-+00007", "wal-00000x", "wal-00 007", "wal-000_07", "wal-000007 ", " wal-000007", "Wal-000007", "wall-000007", "meta", "journal", "meta-000001", "tmp-wal-000007", "tmp-000007", "-000007", "block_000007", "wal-0x0007", "wal-000007-"} {
		if k, n, ok := meta.Parse(s); k != "" || n != 0 || ok {
			t.Errorf("%q: %s %d", s, k, n)
		}
	}
}

func TestSame(t *testing.T) {
	a := meta.Meta{Gen: 1, Next: 9, Wal: 2, Blocks: []int{3, 4}}
	for _, b := range []meta.Meta{{Gen: 2, Next: 9, Wal: 2, Blocks: []int{3, 4}}, {Gen: 1, Next: 8, Wal: 2, Blocks: []int{3, 4}}, {Gen: 1, Next: 9, Wal: 1, Blocks: []int{3, 4}}, {Gen: 1, Next: 9, Wal: 2, Blocks: []int{4, 3}}, {Gen: 1, Next: 9, Wal: 2}, {Gen: 1, Next: 9, Wal: 2, Blocks: []int{3, 4, 5}}} {
		if meta.Same(a, b) || meta.Same(b, a) {
			t.Errorf("%v", b)
		}
	}
	if !meta.Same(a, meta.Meta{Gen: 1, Next: 9, Wal: 2, Blocks: slices.Clone(a.Blocks)}) || !meta.Same(meta.Meta{}, meta.Meta{Blocks: []int{}}) {
		t.Error("alike")
	}
}
