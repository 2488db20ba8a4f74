package disk_test

import (
	"fmt"
	"slices"
	"strings"
	"testing"

	"alluvium/api"
	"alluvium/disk"
	"alluvium/simfs"
)

func text(f *simfs.Fs) string {
	var l []string
	for _, n := range f.List() {
		s, _ := f.Read(n)
		l = append(l, n+"="+s)
	}
	return strings.Join(l, " ")
}

// machine has files that are synced, each named and filled as told.
func machine(t *testing.T, room int, l ...string) *simfs.Fs {
	t.Helper()
	f := simfs.New(room)
	for _, x := range l {
		n, b, _ := strings.Cut(x, "=")
		if f.Create(n) != api.OK || f.Append(n, b) != api.OK || f.Sync(n) != api.OK {
			t.Fatal(x)
		}
	}
	f.SyncDir()
	return f
}

func TestExample(t *testing.T) {
	f := machine(t, 100, "x=old")
	n := f.Steps()
	if disk.Cost(f, "x") != 5 || disk.Save(f, "x", "new") != api.OK || f.Steps()-n != 5 || text(f) != "x=new" {
		t.Errorf("%d steps: %s", f.Steps()-n, text(f))
	}
	f.Crash(nil)
	if text(f) != "x=new" {
		t.Error(text(f))
	}
}

func TestTemporaryFile(t *testing.T) {
	f := machine(t, 100, "tmp-x=half", "y=other")
	n := f.Steps()
	if disk.Cost(f, "x") != 6 || disk.Cost(f, "y") != 5 || disk.Save(f, "x", "") != api.OK || f.Steps()-n != 6 || text(f) != "x= y=other" {
		t.Errorf("%d steps: %s", f.Steps()-n, text(f))
	}
	f = machine(t, 100, "tmp-x=half")
	f.Fuse(0)
	f.SyncDir()
	if disk.Cost(f, "x") != 6 || disk.Cost(f, "y") != 5 {
		t.Error("of a dead machine")
	}
}

func TestSaveErrs(t *testing.T) {
	n36, n37, n41 := strings.Repeat("n", 36), strings.Repeat("n", 37), strings.Repeat("n", 41)
	for i, x := range []struct {
		f       *simfs.Fs
		name, b string
		err     api.Errno
		steps   int
		want    string
	}{
		{machine(t, 10, "x=old"), "x", "12345678", api.ErrFull, 2, "x=old"},
		{machine(t, 10, "x=old"), "x", "1234567", api.OK, 5, "x=1234567"},
		{machine(t, 10, "x=old", "tmp-x=12345"), "x", "12345678", api.ErrFull, 3, "x=old"},
		{machine(t, 10, "x=old"), "", "1", api.ErrArg, 4, "x=old"},
		{machine(t, 10, "x=old"), n36, "1", api.OK, 5, n36 + "=1 x=old"},
		{machine(t, 10, "x=old"), n37, "1", api.ErrArg, 0, "x=old"},
		{machine(t, 10, "x=old"), n41, "1", api.ErrArg, 0, "x=old"},
	} {
		n := x.f.Steps()
		if err := disk.Save(x.f, x.name, x.b); err != x.err || x.f.Steps()-n != x.steps || text(x.f) != x.want {
			t.Errorf("%d: %v, %d steps, %s", i, err, x.f.Steps()-n, text(x.f))
		}
	}
	var l []string
	for i := range 64 {
		l = append(l, fmt.Sprint(i))
	}
	f := machine(t, 10, l...)
	if err := disk.Save(f, "1", "x"); err != api.ErrMany || len(f.List()) != 64 {
		t.Errorf("64 files: %v", err)
	}
	f.Rename("0", "tmp-1")
	if err := disk.Save(f, "1", "x"); err != api.OK || len(f.List()) != 63 {
		t.Errorf("64 files, one temporary: %v", err)
	}
}

// keeps are ways in which a machine crashes.
var keeps = [][]int{nil, {1}, {2}, {3}, {5, 1}, {4, 1, 2}, {1, 1, 3}, {2, 7, 1}, {3, 2, 9, 4}, {6, 5}}

// A file that is saved has what it had, or what it was to have, wherever the machine dies, whatever survives.
func TestSaveIsWhole(t *testing.T) {
	for _, files := range [][]string{{"x=old", "y=other"}, {"x=old", "y=other", "tmp-x=half"}, {"y=other"}} {
		for fuse := range 8 {
			for _, keep := range keeps {
				f := machine(t, 100, files...)
				f.Fuse(fuse)
				cost := disk.Cost(f, "x")
				err := disk.Save(f, "x", "what is new")
				if want := fuse < cost; (err == api.ErrDead) != want || f.Dead() != want || !want && err != api.OK {
					t.Fatalf("%d: %v", fuse, err)
				}
				f.Crash(keep)
				if err := f.Append("z", ""); err != api.ErrNone {
					t.Fatal(err)
				}
				b, none := f.Read("x")
				old := b == "old" || none == api.ErrNone && len(files) == 1
				if y, _ := f.Read("y"); y != "other" || b != "what is new" && !old || err == api.OK && b != "what is new" {
					t.Fatalf("%v: fuse %d, keep %v: %s", files, fuse, keep, text(f))
				}
			}
		}
	}
}

// A temporary file of a machine that died is left, and not removed.
func TestSaveDies(t *testing.T) {
	f := machine(t, 100, "x=old")
	f.Fuse(2)
	if err := disk.Save(f, "x", "new"); err != api.ErrDead || !slices.Equal(f.List(), []string{"tmp-x", "x"}) {
		t.Errorf("%v %v", err, f.List())
	}
	if err := disk.Save(f, "x", "new"); err != api.ErrDead {
		t.Errorf("%v", err)
	}
	if err := disk.Save(f, "y", "new"); err != api.ErrDead || len(f.List()) != 2 {
		t.Errorf("%v", err)
	}
	// it dies while the temporary file is removed: the first error is told
	f = machine(t, 10, "x=old")
	f.Fuse(1)
	if err := disk.Save(f, "x", "12345678"); err != api.ErrFull || !f.Dead() {
		t.Errorf("%v", err)
	}
}

func TestSweep(t *testing.T) {
	for i, x := range []struct {
		keep  []string
		n     int
		steps int
		want  string
	}{{nil, 3, 4, ""}, {[]string{"b", "q"}, 2, 3, "b=2"}, {[]string{"c", "a", "b", "a"}, 0, 0, "a=1 b=2 c=3"}, {[]string{"a", "b"}, 1, 2, "a=1 b=2"}} {
		f := machine(t, 100, "c=3", "a=1", "b=2")
		at := f.Steps()
		if n, err := disk.Sweep(f, x.keep); n != x.n || err != api.OK || f.Steps()-at != x.steps || text(f) != x.want {
			t.Errorf("%d: %d %v, %d steps, %s", i, n, err, f.Steps()-at, text(f))
		}
		f.Crash(nil)
		if text(f) != x.want {
			t.Errorf("%d: %s", i, text(f))
		}
	}
	for fuse, want := range []int{0, 1, 2, 2, 2} {
		f := machine(t, 100, "c=3", "a=1", "b=2")
		f.Fuse(fuse)
		wanted := api.ErrDead
		if fuse > 2 {
			wanted = api.OK
		}
		if n, err := disk.Sweep(f, []string{"b"}); n != want || err != wanted || f.Dead() != (fuse < 3) {
			t.Errorf("fuse %d: %d %v", fuse, n, err)
		}
		if fuse == 1 && !slices.Equal(f.List(), []string{"b", "c"}) {
			t.Errorf("%v is not swept in order", f.List())
		}
	}
	f := machine(t, 100, "a=1")
	f.Fuse(0)
	f.SyncDir()
	if n, err := disk.Sweep(f, []string{"a"}); n != 0 || err != api.OK {
		t.Errorf("nothing is to be swept: %d %v", n, err)
	}
	if n, err := disk.Sweep(f, nil); n != 0 || err != api.ErrDead {
		t.Errorf("a dead machine: %d %v", n, err)
	}
}

func TestRepair(t *testing.T) {
	for i, x := range []struct {
		name  string
		n     int
		err   api.Errno
		steps int
		want  string
	}{{"a", 2, api.OK, 2, "a=ab"}, {"a", 0, api.OK, 2, "a="}, {"a", 5, api.OK, 0, "a=abcde"}, {"a", 6, api.ErrArg, 0, "a=abcde"}, {"a", -1, api.ErrArg, 0, "a=abcde"}, {"b", 0, api.ErrNone, 0, "a=abcde"}} {
		f := machine(t, 100, "a=abcde")
		at := f.Steps()
		if err := disk.Repair(f, x.name, x.n); err != x.err || f.Steps()-at != x.steps || text(f) != x.want {
			t.Errorf("%d: %v, %d steps, %s", i, err, f.Steps()-at, text(f))
		}
		f.Crash(nil)
		if text(f) != x.want {
			t.Errorf("%d: %s", i, text(f))
		}
	}
	for fuse := range 2 {
		f := machine(t, 100, "a=abcde")
		f.Fuse(fuse)
		if err := disk.Repair(f, "a", 2); err != api.ErrDead {
			t.Errorf("fuse %d: %v", fuse, err)
		}
		if err := disk.Repair(f, "a", 5-3*fuse); err != api.ErrDead {
			t.Errorf("a dead machine: %v", err)
		}
	}
}
