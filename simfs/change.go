package simfs

// names are files by their names.
type names map[string]*file

// anew are the same files, in a map of their own.
func (n names) anew() names {
	out := make(names, len(n))
	for name, x := range n {
		out[name] = x
	}
	return out
}

// file is bytes that are there, what of them is synced, and what was changed since.
type file struct {
	bytes   string
	synced  string
	changes []writing
}

// whole is a file all of whose bytes are synced.
func whole(b string) file { return file{bytes: b, synced: b} }

// change changes the bytes.
func (x *file) change(c writing) {
	x.bytes = c.write(x.bytes)
	x.changes = append(x.changes, c)
}

// crash lets a beginning of the changes survive, as the numbers at a place of keep, and behind it, tell.
func (x *file) crash(keep []int, place int) {
	b := x.synced
	n := share(keep, place, len(x.changes))
	for _, c := range x.changes[:n] {
		b = c.write(b)
	}
	if n < len(x.changes) {
		b = x.changes[n].torn(b, keep, place+1)
	}
	*x = whole(b)
}

// naming is a change of names.
type naming interface {
	name(n names)
}

type created struct {
	to string
	x  *file
}

type renamed struct{ from, to string }

type removed struct{ from string }

func (c created) name(n names) { n[c.to] = c.x }

func (c renamed) name(n names) {
	x := n[c.from]
	delete(n, c.from)
	n[c.to] = x
}

func (c removed) name(n names) { delete(n, c.from) }

// writing is a change of bytes.
type writing interface {
	// write is bytes behind the change.
	write(b string) string
	// torn is bytes behind that of it which survives, as the number at a place of keep tells.
	torn(b string, keep []int, place int) string
}

type appended struct{ b string }

type cut struct{ n int }

func (c appended) write(b string) string { return b + c.b }

func (c appended) torn(b string, keep []int, place int) string {
	return b + c.b[:share(keep, place, len(c.b))]
}

func (c cut) write(b string) string { return b[:c.n] }

func (c cut) torn(b string, keep []int, place int) string { return b }
