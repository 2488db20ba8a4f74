package simfs_test

import (
	"fmt"
	"math"
	"math/rand"
	"slices"
	"sort"
	"strings"
	"testing"

	"alluvium/api"
	"alluvium/simfs"
)

// text tells all files.
func text(f *simfs.Fs) string {
	b := ""
	for _, n := range f.List() {
		s, err := f.Read(n)
		b += fmt.Sprintf("%s=%q", n, s)
		if err != api.OK {
			b += err.Error()
		}
		b += " "
	}
	return strings.TrimSpace(b)
}

// ok fails, if a step erred.
func ok(t *testing.T, l ...api.Errno) {
	t.Helper()
	for i, err := range l {
		if err != api.OK {
			t.Fatalf("step %d: %v", i, err)
		}
	}
}

func TestExample(t *testing.T) {
	f := simfs.New(100)
	ok(t, f.Create("a"), f.Append("a", "x"), f.Sync("a"))
	f.Crash(nil)
	if len(f.List()) != 0 || f.Size() != 0 {
		t.Error(text(f))
	}
}

func TestErrors(t *testing.T) {
	f := simfs.New(10)
	n40, n41 := strings.Repeat("n", 40), strings.Repeat("n", 41)
	ok(t, f.Create("a"), f.Create(n40), f.Append("a", "12345"))
	steps, was := f.Steps(), text(f)
	for i, x := range []struct{ got, want api.Errno }{
		{f.Create(""), api.ErrArg}, {f.Create(n41), api.ErrArg}, {f.Create("a"), api.ErrExists}, {f.Create(n40), api.ErrExists},
		{f.Append("b", "123456"), api.ErrNone}, {f.Append("a", "123456"), api.ErrFull}, {f.Append(n40, "123456"), api.ErrFull}, {f.Append("", ""), api.ErrNone},
		{f.Cut("b", -1), api.ErrNone}, {f.Cut("a", -1), api.ErrArg}, {f.Cut("a", 6), api.ErrArg}, {f.Cut("a", math.MaxInt), api.ErrArg}, {f.Cut("a", math.MinInt), api.ErrArg},
		{f.Sync("b"), api.ErrNone}, {f.Rename("b", ""), api.ErrNone}, {f.Rename("a", ""), api.ErrArg}, {f.Rename("a", n41), api.ErrArg}, {f.Remove("b"), api.ErrNone}, {f.Remove(n41), api.ErrNone},
	} {
		if x.got != x.want {
			t.Errorf("%d: %v, not %v", i, x.got, x.want)
		}
	}
	if s, err := f.Read("b"); s != "" || err != api.ErrNone {
		t.Errorf("%q %v", s, err)
	}
	if f.Steps() != steps || text(f) != was || f.Size() != 5 {
		t.Errorf("what errs is a step: %d, %s", f.Steps(), text(f))
	}
	ok(t, f.Append("a", "12345"), f.Append("a", ""), f.Cut("a", 10), f.Cut("a", 0), f.Append(n40, "1234567890"), f.Cut(n40, 3))
	if text(f) != `a="" `+n40+`="123"` || f.Steps() != steps+6 {
		t.Error(text(f))
	}
}

func TestManyFiles(t *testing.T) {
	f := simfs.New(0)
	for i := range 64 {
		ok(t, f.Create(fmt.Sprint(i)))
	}
	if f.Create("more") != api.ErrMany || f.Create("7") != api.ErrExists || f.Create("") != api.ErrArg || len(f.List()) != 64 {
		t.Error("65 files")
	}
	ok(t, f.Rename("0", "more"), f.Rename("1", "2"), f.Create("1"))
	if f.Create("0") != api.ErrMany {
		t.Error("65 files")
	}
	if l := f.List(); !sort.StringsAreSorted(l) || len(l) != 64 {
		t.Error(l)
	}
}

func TestRoom(t *testing.T) {
	for _, room := range []int{0, -1, math.MinInt} {
		f := simfs.New(room)
		ok(t, f.Create("a"), f.Append("a", ""))
		if f.Append("a", "x") != api.ErrFull {
			t.Errorf("%d: there is room", room)
		}
		f.Room(3)
		ok(t, f.Append("a", "xyz"))
		f.Room(room)
		if f.Append("a", "") != api.ErrFull || f.Size() != 3 {
			t.Errorf("%d: there is room for no bytes, though there are more", room)
		}
		ok(t, f.Cut("a", 0), f.Append("a", ""))
		f.Room(math.MaxInt)
		ok(t, f.Append("a", strings.Repeat("x", 1000)))
		f.Crash(nil)
		if f.Size() != 0 {
			t.Error("bytes that are gone")
		}
		f.Room(room)
		ok(t, f.Create("b"))
		if f.Append("b", "x") != api.ErrFull {
			t.Errorf("%d: there is room", room)
		}
	}
	f := simfs.New(10)
	ok(t, f.Create("a"), f.Create("b"), f.Append("a", "12345"), f.Append("b", "12345"), f.Remove("a"), f.Append("b", "12345"))
	if f.Append("b", "1") != api.ErrFull {
		t.Error("room is of all files")
	}
	f.SyncDir()
	f.Crash(nil)
	if f.Append("b", strings.Repeat("x", 11)) != api.ErrFull || f.Append("b", strings.Repeat("x", 10)) != api.OK {
		t.Error("the room is the same behind a crash")
	}
}

func TestRename(t *testing.T) {
	f := simfs.New(100)
	ok(t, f.Create("a"), f.Create("b"), f.Append("a", "of a"), f.Append("b", "of b"), f.Rename("a", "b"))
	if text(f) != `b="of a"` || f.Size() != 4 {
		t.Error(text(f))
	}
	ok(t, f.Rename("b", "b"), f.Append("b", "!"))
	if text(f) != `b="of a!"` || f.Steps() != 7 {
		t.Error(text(f))
	}
	ok(t, f.Rename("b", "c"), f.Create("b"))
	if text(f) != `b="" c="of a!"` {
		t.Error(text(f))
	}
}

func TestFuse(t *testing.T) {
	f := simfs.New(100)
	ok(t, f.Create("a"))
	f.Fuse(2)
	if f.Create("a") != api.ErrExists || f.Append("q", "") != api.ErrNone || f.Dead() {
		t.Error("what errs is no step")
	}
	ok(t, f.Append("a", "x"), f.SyncDir())
	if f.Cut("a", 9) != api.ErrArg || f.Dead() {
		t.Error("it dies at what is no step")
	}
	if f.Append("a", "y") != api.ErrDead || !f.Dead() || f.Steps() != 3 || f.Size() != 1 || !slices.Equal(f.List(), []string{"a"}) {
		t.Error("it does not die at the third one")
	}
	for i, err := range []api.Errno{f.Create(""), f.Create("b"), f.Append("q", ""), f.Cut("a", -1), f.Sync("q"), f.SyncDir(), f.Rename("q", ""), f.Remove("q"), f.Remove("a")} {
		if err != api.ErrDead {
			t.Errorf("%d: %v", i, err)
		}
	}
	if s, err := f.Read("a"); s != "" || err != api.ErrDead {
		t.Errorf("%q %v", s, err)
	}
	f.Fuse(5)
	f.Room(7)
	if !f.Dead() || f.Steps() != 3 {
		t.Error("a fuse lets it live")
	}
	f.Crash([]int{0, 1})
	if f.Dead() || f.Steps() != 3 || text(f) != `a="x"` {
		t.Error(text(f))
	}
	for range 20 {
		ok(t, f.SyncDir())
	}
	f.Fuse(0)
	if f.Create("") != api.ErrArg || f.SyncDir() != api.ErrDead || !f.Dead() {
		t.Error("at the next one")
	}
	for _, n := range []int{-1, math.MinInt, math.MaxInt, 1 << 30, 1 << 40} {
		f.Crash(nil)
		f.Fuse(0)
		f.Fuse(n)
		for range 10 {
			ok(t, f.SyncDir())
		}
	}
	f.Fuse(3)
	f.Crash(nil)
	for range 10 {
		ok(t, f.SyncDir())
	}
}

// Of each of the seven kinds of steps: it is one, and it dies at it.
func TestSteps(t *testing.T) {
	for i, step := range []func(f *simfs.Fs) api.Errno{
		func(f *simfs.Fs) api.Errno { return f.Create("b") }, func(f *simfs.Fs) api.Errno { return f.Append("a", "more") }, func(f *simfs.Fs) api.Errno { return f.Cut("a", 1) }, func(f *simfs.Fs) api.Errno { return f.Sync("a") },
		func(f *simfs.Fs) api.Errno { return f.SyncDir() }, func(f *simfs.Fs) api.Errno { return f.Rename("a", "b") }, func(f *simfs.Fs) api.Errno { return f.Remove("a") },
	} {
		f := simfs.New(100)
		ok(t, f.Create("a"), f.Append("a", "abc"), step(f))
		if f.Steps() != 3 {
			t.Errorf("%d: %d steps", i, f.Steps())
		}
		f = simfs.New(100)
		ok(t, f.Create("a"), f.Append("a", "abc"), f.Sync("a"), f.SyncDir(), f.Append("a", "d"))
		f.Fuse(0)
		if step(f) != api.ErrDead || !f.Dead() || f.Steps() != 5 || f.Size() != 4 || len(f.List()) != 1 {
			t.Errorf("%d: it does not die", i)
		}
		f.Crash([]int{1, 1, 4})
		if f.Dead() || text(f) != `a="abcd"` {
			t.Errorf("%d: %s", i, text(f))
		}
	}
}

func TestCrash(t *testing.T) {
	for i, x := range []struct {
		keep []int
		want string
	}{
		{nil, `a="base"`}, {[]int{0}, `a="base"`}, {[]int{0, 1, 0}, `a="base1"`}, {[]int{0, 1, 1}, `a="base12"`}, {[]int{0, 1, 2}, `a="base123"`}, {[]int{0, 1, 3}, `a="base1"`}, {[]int{0, 2, 99}, `a="base123"`}, {[]int{0, 3, 0}, `a="ba"`}, {[]int{0, 3, 1}, `a="ba4"`}, {[]int{0, 3, 8}, `a="ba456"`}, {[]int{0, 4, 1}, `a="ba4567"`}, {[]int{0, 4, 0}, `a="ba4567"`}, {[]int{0, 0, 1}, `a="base1"`}, {[]int{0, 5, 8}, `a="base"`}, {[]int{0, 5, 9}, `a="base1"`}, {[]int{0, 0, 0}, `a="base"`},
		{[]int{1, 0, 0, 0, 0}, `a="base" b=""`}, {[]int{1, 0, 0, 1, 0}, `a="base" b="x"`}, {[]int{1, 0, 0, 0, 1}, `a="base" b="x"`}, {[]int{2, 0, 0, 1, 1}, `a="base" c="x"`}, {[]int{3, 1, 0}, `c="x"`}, {[]int{4, 1, 0}, `a="base1"`}, {[]int{-3, -1, 0}, `c="x"`}, {[]int{math.MinInt, 1, 0}, `a="base1"`}, {[]int{-4 - 3, -1, math.MinInt}, `c="x"`}, {[]int{1}, `a="base12" b="x"`}, {[]int{7, 5, math.MaxInt}, `c="x"`},
	} {
		f := simfs.New(1000)
		ok(t, f.Create("a"), f.Append("a", "base"), f.Sync("a"), f.SyncDir())
		ok(t, f.Append("a", "1"), f.Append("a", "23"), f.Cut("a", 2), f.Append("a", "4567"))
		ok(t, f.Create("b"), f.Append("b", "x"), f.Rename("b", "c"), f.Remove("a"))
		f.Crash(x.keep)
		if text(f) != x.want {
			t.Errorf("%d: %v: %s, not %s", i, x.keep, text(f), x.want)
		}
		f.Crash(nil)
		if text(f) != x.want {
			t.Errorf("%d: what survived is not synced: %s", i, text(f))
		}
	}
}

func TestWhatIsSyncedSurvives(t *testing.T) {
	for _, keep := range [][]int{nil, {1}, {2, 3, 4}, {7, 1, 2, 9}, {1 << 40, -5}} {
		f := simfs.New(100)
		ok(t, f.Create("a"), f.Append("a", "abc"), f.Sync("a"), f.SyncDir(), f.Append("a", "def"), f.Create("b"))
		f.Crash(keep)
		if s, err := f.Read("a"); err != api.OK || !strings.HasPrefix(s, "abc") || !strings.HasPrefix("abcdef", s) {
			t.Errorf("%v: %q", keep, s)
		}
		// the names are synced, the bytes are not
		f = simfs.New(100)
		ok(t, f.Create("a"), f.SyncDir(), f.Append("a", "abc"), f.Rename("a", "a"))
		f.Crash(nil)
		if text(f) != `a=""` {
			t.Error(text(f))
		}
	}
}

func TestRenameToItselfCounts(t *testing.T) {
	f := simfs.New(100)
	ok(t, f.Create("a"), f.SyncDir(), f.Rename("a", "a"), f.Create("b"))
	f.Crash([]int{1})
	if text(f) != `a=""` {
		t.Error(text(f))
	}
	f = simfs.New(100)
	ok(t, f.Create("a"), f.SyncDir(), f.Rename("a", "a"), f.Create("b"))
	f.Crash([]int{2})
	if text(f) != `a="" b=""` {
		t.Error(text(f))
	}
}

// model is a machine as the chapter tells it: a log of all that was done.
type model struct {
	ids   map[string]int
	kept  map[string]int
	log   [][3]string // of names: create, rename, remove
	ops   map[int][]func(b string, most int) string
	sizes map[int][]int // how many bytes each change appends; -1 of a cut
	base  map[int]string
	now   map[int]string
	next  int
}

func (m *model) name(ids map[string]int, c [3]string) {
	switch c[0] {
	case "create":
		var id int
		fmt.Sscan(c[2], &id)
		ids[c[1]] = id
	case "rename":
		if id := ids[c[1]]; c[1] != c[2] {
			ids[c[2]] = id
			delete(ids, c[1])
		}
	case "remove":
		delete(ids, c[1])
	}
}

func (m *model) do(c [3]string) {
	m.name(m.ids, c)
	m.log = append(m.log, c)
}

func (m *model) write(id, size int, f func(b string, most int) string) {
	m.now[id] = f(m.now[id], 1<<40)
	m.ops[id] = append(m.ops[id], f)
	m.sizes[id] = append(m.sizes[id], size)
}

func (m *model) crash(keep []int) {
	k := func(i int) int {
		if len(keep) == 0 {
			return 0
		}
		if n := keep[i%len(keep)]; n >= 0 {
			return n
		} else if n == math.MinInt {
			return 0
		} else {
			return -n
		}
	}
	ids := map[string]int{}
	for n, id := range m.kept {
		ids[n] = id
	}
	for _, c := range m.log[:k(0)%(len(m.log)+1)] {
		m.name(ids, c)
	}
	var l []string
	for n := range ids {
		l = append(l, n)
	}
	sort.Strings(l)
	for j, n := range l {
		id := ids[n]
		b, ops := m.base[id], m.ops[id]
		first := k(1+2*j) % (len(ops) + 1)
		for _, f := range ops[:first] {
			b = f(b, 1<<40)
		}
		if first < len(ops) && m.sizes[id][first] >= 0 {
			b = ops[first](b, k(2+2*j)%(m.sizes[id][first]+1))
		}
		m.base[id], m.now[id], m.ops[id], m.sizes[id] = b, b, nil, nil
	}
	m.ids, m.kept, m.log = ids, map[string]int{}, nil
	for n, id := range ids {
		m.kept[n] = id
	}
}

func (m *model) text() string {
	var l []string
	for n, id := range m.ids {
		l = append(l, fmt.Sprintf("%s=%q", n, m.now[id]))
	}
	sort.Strings(l)
	return strings.Join(l, " ")
}

func TestModel(t *testing.T) {
	r := rand.New(rand.NewSource(1))
	for range 300 {
		f := simfs.New(1 << 20)
		m := &model{ids: map[string]int{}, kept: map[string]int{}, ops: map[int][]func(string, int) string{}, sizes: map[int][]int{}, base: map[int]string{}, now: map[int]string{}}
		for range 120 {
			a, b := string("abcde"[r.Intn(5)]), string("abcde"[r.Intn(5)])
			id, there := m.ids[a]
			switch r.Intn(12) {
			case 0, 1:
				if f.Create(a) == api.OK {
					m.next++
					m.do([3]string{"create", a, fmt.Sprint(m.next)})
				}
			case 2, 3, 4, 5:
				s := strings.Repeat(string("xyz"[r.Intn(3)]), r.Intn(5))
				if f.Append(a, s) == api.OK {
					m.write(id, len(s), func(b string, most int) string { return b + s[:min(len(s), most)] })
				}
			case 6:
				n := r.Intn(6)
				if f.Cut(a, n) == api.OK {
					m.write(id, -1, func(b string, most int) string { return b[:n] })
				}
			case 7:
				if f.Sync(a) == api.OK {
					m.base[id], m.ops[id], m.sizes[id] = m.now[id], nil, nil
				}
			case 8:
				ok(t, f.SyncDir())
				m.log, m.kept = nil, map[string]int{}
				for n, id := range m.ids {
					m.kept[n] = id
				}
			case 9:
				if f.Rename(a, b) == api.OK {
					m.do([3]string{"rename", a, b})
				}
			case 10:
				if f.Remove(a) == api.OK {
					m.do([3]string{"remove", a})
				}
			case 11:
				if r.Intn(3) > 0 {
					break
				}
				var keep []int
				for range r.Intn(9) {
					keep = append(keep, r.Intn(40)-20)
				}
				was := slices.Clone(keep)
				f.Crash(keep)
				m.crash(keep)
				if !slices.Equal(keep, was) {
					t.Fatal("an argument is another one")
				}
			}
			if _, still := m.ids[a]; f.Size() < 0 || there && !still && f.Sync(a) != api.ErrNone {
				t.Fatal("a file that is gone")
			}
			if text(f) != m.text() {
				t.Fatalf("%s, not %s", text(f), m.text())
			}
		}
	}
}

func TestListSharesNothing(t *testing.T) {
	f := simfs.New(10)
	ok(t, f.Create("a"), f.Create("b"))
	f.List()[0] = "spoilt"
	if text(f) != `a="" b=""` {
		t.Error(text(f))
	}
}
