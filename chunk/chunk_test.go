package chunk_test

import (
	"math"
	"math/rand"
	"slices"
	"strings"
	"testing"

	"alluvium/api"
	"alluvium/chunk"
	"alluvium/crc"
	"alluvium/num"
	"alluvium/stamp"
	"alluvium/value"
)

func checked(s string) string { return s + crc.Tail(s) }

func TestExample(t *testing.T) {
	if s, err := chunk.Put(nil, 2); s != checked("\x00") || err != api.OK {
		t.Errorf("%q %v", s, err)
	}
}

func TestBytes(t *testing.T) {
	l := []api.Sample{{T: 300, V: 7}, {T: 310, V: 8}, {T: 1 << 40, V: math.MaxUint64}}
	one := num.Wide(3)
	for _, x := range l {
		one += num.Wide(uint64(x.T)) + num.Wide(x.V)
	}
	two := "\x03\xd8\x04" + num.Wide(7) + "\x14" + num.Wide(8) + num.Small(2*(1<<40-310)) + num.Wide(math.MaxUint64)
	three := "\x03" + num.Text(stamp.All([]int64{300, 310, 1 << 40})) + num.Text(value.All([]uint64{7, 8, math.MaxUint64}))
	for i, want := range []string{one, two, three} {
		if s, err := chunk.Put(l, i+1); s != checked(want) || err != api.OK {
			t.Errorf("%d: %q, not %q", i+1, s, want)
		}
		if got, err := chunk.Get(checked(want), i+1); !slices.Equal(got, l) || err != api.OK {
			t.Errorf("%d: %v %v", i+1, got, err)
		}
	}
	for i, want := range []string{num.Wide(0), "\x00", "\x00\x00\x00"} {
		if s, err := chunk.Put(nil, i+1); s != checked(want) || err != api.OK {
			t.Errorf("none in %d: %q", i+1, s)
		}
		if got, err := chunk.Get(checked(want), i+1); len(got) != 0 || err != api.OK {
			t.Errorf("none in %d: %v %v", i+1, got, err)
		}
	}
	if s, _ := chunk.Put([]api.Sample{{T: -1, V: 1}}, 2); s != checked("\x01\x01"+num.Wide(1)) {
		t.Errorf("%q", s)
	}
}

func rising(n int) []api.Sample {
	l := make([]api.Sample, n)
	for i := range l {
		l[i] = api.Sample{T: int64(10 * i), V: 5}
	}
	return l
}

func TestArg(t *testing.T) {
	for _, gen := range []int{0, 4, -1, math.MaxInt, math.MinInt} {
		if s, err := chunk.Put(nil, gen); s != "" || err != api.ErrArg {
			t.Errorf("%d: %v", gen, err)
		}
		if l, err := chunk.Get(checked("\x00"), gen); len(l) != 0 || err != api.ErrArg {
			t.Errorf("%d: %v", gen, err)
		}
	}
	for gen := 1; gen <= 3; gen++ {
		if s, err := chunk.Put(rising(200), gen); err != api.OK {
			t.Errorf("200: %q %v", s, err)
		} else if l, err := chunk.Get(s, gen); err != api.OK || !slices.Equal(l, rising(200)) {
			t.Errorf("200: %v", err)
		}
		for _, l := range [][]api.Sample{rising(201), {{T: 1}, {T: 1}}, {{T: 2}, {T: 1}}, {{T: math.MaxInt64}, {T: math.MinInt64}}} {
			if s, err := chunk.Put(l, gen); s != "" || err != api.ErrArg {
				t.Errorf("%v: %v", l, err)
			}
		}
	}
}

func some(r *rand.Rand) []api.Sample {
	ts := []int64{}
	for range r.Intn(30) {
		ts = append(ts, int64(r.Uint64())>>r.Intn(64))
	}
	slices.Sort(ts)
	var l []api.Sample
	for _, t := range slices.Compact(ts) {
		l = append(l, api.Sample{T: t, V: r.Uint64() >> r.Intn(64)})
	}
	return l
}

// What is put is got again, and turned, and turned back, it is the same.
func TestWhatIsPutIsGot(t *testing.T) {
	r := rand.New(rand.NewSource(1))
	for range 500 {
		l := some(r)
		var all [4]string
		for gen := 1; gen <= 3; gen++ {
			s, err := chunk.Put(l, gen)
			if err != api.OK {
				t.Fatal(err)
			}
			if got, err := chunk.Get(s, gen); err != api.OK || !slices.Equal(got, l) {
				t.Fatalf("%d: %v, not %v", gen, got, l)
			}
			all[gen] = s
		}
		best := 1
		for from := 1; from <= 3; from++ {
			if len(all[from]) <= len(all[best]) {
				best = from
			}
			for to := 1; to <= 3; to++ {
				if s, err := chunk.Turn(all[from], from, to); s != all[to] || err != api.OK {
					t.Fatalf("%d to %d: %q, not %q", from, to, s, all[to])
				}
			}
		}
		if n := chunk.Smallest(l); n != best {
			t.Fatalf("%v: %d, not %d", l, n, best)
		}
	}
}

func TestSmallest(t *testing.T) {
	for _, l := range [][]api.Sample{rising(201), {{T: 1}, {T: 1}}} {
		if n := chunk.Smallest(l); n != 0 {
			t.Errorf("%d", n)
		}
	}
	if n := chunk.Smallest(nil); n != 2 {
		t.Errorf("none: %d", n)
	}
	if n := chunk.Smallest(rising(100)); n != 3 {
		t.Errorf("100: %d", n)
	}
	// 1 + 1 + 8 bytes, and 1 + 1 + 8 + 1 + 8
	if n := chunk.Smallest(rising(1)); n != 2 {
		t.Errorf("one: %d", n)
	}
}

// Nothing else is got than what is put.
func TestOnlyWhatIsPutIsGot(t *testing.T) {
	w, times, values := num.Wide, stamp.All([]int64{5, 6}), value.All([]uint64{1, 2})
	for gen, l := range map[int][]string{
		1: {"", w(1), w(2) + w(1) + w(1), w(1) + w(1) + w(1) + "x", w(2) + w(1) + w(1) + w(1) + w(1), w(2) + w(2) + w(1) + w(1) + w(1), w(math.MaxUint64), w(201) + strings.Repeat(w(1), 402)},
		2: {"", "\x80\x00", "\x01", "\x01\x02" + w(1) + "x", "\x01\x82\x00" + w(1), "\x02\x02" + w(1) + "\x00" + w(1), "\x02\x02" + w(1) + "\x01" + w(1), num.Small(math.MaxUint64), num.Small(201) + strings.Repeat("\x02"+w(1), 201)},
		3: {"", "\x00", "\x00\x00", "\x00\x00\x00\x00", "\x00\x01\x00\x00", "\x02" + num.Text(times), "\x02" + num.Text(values) + num.Text(times), "\x03" + num.Text(times) + num.Text(values), "\x02" + num.Text(times) + num.Text(values) + "x", "\x02" + num.Text(times+"\x00") + num.Text(values), "\x02" + num.Text(times) + num.Text(values+"\x00"), "\x02" + num.Text(times) + num.Text(values[:8]),
			"\x02" + num.Text(stamp.All([]int64{5, 5})) + num.Text(values), "\x02" + num.Text(stamp.All([]int64{5, 4})) + num.Text(values), num.Small(math.MaxUint64) + "\x00\x00", num.Small(201) + num.Text(stamp.All(make([]int64, 201))) + num.Text(value.All(make([]uint64, 201)))},
	} {
		for _, s := range l {
			if got, err := chunk.Get(checked(s), gen); len(got) != 0 || err != api.ErrCorrupt {
				t.Errorf("%d: %q: %v", gen, s, got)
			}
			if got, err := chunk.Turn(checked(s), gen, 9); got != "" || err != api.ErrCorrupt {
				t.Errorf("%d: %q: %v", gen, s, got)
			}
		}
		s, _ := chunk.Put(rising(3), gen)
		for i := range s {
			b := []byte(s)
			b[i] ^= 16
			if got, err := chunk.Get(string(b), gen); len(got) != 0 || err != api.ErrCorrupt {
				t.Errorf("%d: %q: %v", gen, b, got)
			}
			if got, err := chunk.Get(s[:i], gen); len(got) != 0 || err != api.ErrCorrupt {
				t.Errorf("%d: %q: %v", gen, s[:i], got)
			}
		}
	}
	s, _ := chunk.Put(rising(3), 2)
	for _, x := range []struct {
		from, to int
		err      api.Errno
	}{{0, 2, api.ErrArg}, {4, 9, api.ErrArg}, {2, 0, api.ErrArg}, {2, 4, api.ErrArg}, {1, 2, api.ErrCorrupt}, {3, 9, api.ErrCorrupt}} {
		if got, err := chunk.Turn(s, x.from, x.to); got != "" || err != x.err {
			t.Errorf("%d to %d: %v", x.from, x.to, err)
		}
	}
	r := rand.New(rand.NewSource(5))
	for range 3000 {
		gen := 1 + r.Intn(3)
		s, _ := chunk.Put(some(r), gen)
		b := []byte(s[:len(s)-4])
		b[r.Intn(len(b))] ^= byte(1 << r.Intn(8))
		if l, err := chunk.Get(checked(string(b)), gen); err == api.OK {
			if again, _ := chunk.Put(l, gen); again != checked(string(b)) {
				t.Fatalf("%d: %q: %v", gen, b, l)
			}
		}
	}
}
