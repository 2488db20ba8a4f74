package index

import (
	"cmp"
	"slices"
	"strings"

	"alluvium/api"
	"alluvium/crc"
	"alluvium/num"
)

// width is how many bytes a name, or a value, has in generation 1.
const width = 12

// Put is entries as bytes.
func Put(l []Entry, gen int) (string, api.Errno) {
	if err := Valid(l, gen); err != api.OK {
		return "", err
	}
	w := &writer{places: map[string]int{}}
	switch gen {
	case 1:
		w.first(l)
	case 2:
		w.second(l)
	case 3:
		w.third(l)
	}
	b := w.b.String()
	return b + crc.Tail(b), api.OK
}

// writer is the bytes of entries, and the place of each symbol.
type writer struct {
	b      strings.Builder
	places map[string]int
}

// text puts bytes.
func (w *writer) text(s string) { w.b.WriteString(s) }

// small puts numbers as few bytes.
func (w *writer) small(l ...uint64) {
	for _, n := range l {
		w.text(num.Small(n))
	}
}

// first puts entries as generation 1 does: wide numbers, and fixed texts.
func (w *writer) first(l []Entry) {
	w.text(num.Wide(uint64(len(l))))
	for _, e := range l {
		w.text(string([]byte{byte(len(e.Labels))}))
		for _, x := range e.Labels {
			w.text(num.Fixed(x.Name, width) + num.Fixed(x.Value, width))
		}
		w.text(num.Wide(uint64(e.Last)) + num.Wide(uint64(e.Off)) + num.Wide(uint64(e.Len)))
	}
}

// second puts entries as generation 2 does: symbols, and their places.
func (w *writer) second(l []Entry) {
	symbols := Symbols(l)
	w.small(uint64(len(symbols)))
	for i, s := range symbols {
		w.places[s] = i
		w.text(num.Text(s))
	}
	w.small(uint64(len(l)))
	for _, e := range l {
		w.labels(e)
		w.small(uint64(e.Last), uint64(e.Off), uint64(e.Len))
	}
}

// labels puts the labels of an entry by the places of symbols.
func (w *writer) labels(e Entry) {
	w.small(uint64(len(e.Labels)))
	for _, x := range e.Labels {
		w.small(uint64(w.places[x.Name]), uint64(w.places[x.Value]))
	}
}

// third puts entries as generation 3 does: each thing by how it differs from the one ahead, and then the postings.
func (w *writer) third(l []Entry) {
	symbols := Symbols(l)
	w.small(uint64(len(symbols)))
	ahead := ""
	for i, s := range symbols {
		n := shared(ahead, s)
		w.places[s] = i
		w.small(uint64(n))
		w.text(num.Text(s[n:]))
		ahead = s
	}
	w.small(uint64(len(l)))
	var last, end int64
	for _, e := range l {
		w.labels(e)
		w.small(num.Zig(e.Last-last), num.Zig(int64(e.Off)-end), uint64(e.Len))
		last, end = e.Last, int64(e.Off)+int64(e.Len)
	}
	w.postings(l)
}

// shared is how many bytes two texts begin with alike.
func shared(a, b string) int {
	n := 0
	for n < len(a) && n < len(b) && a[n] == b[n] {
		n++
	}
	return n
}

// postings puts of each label how many entries have it, and how far each is from the one ahead.
func (w *writer) postings(l []Entry) {
	counts := map[api.Label]int{}
	var all []api.Label
	for _, e := range l {
		for _, x := range e.Labels {
			if counts[x] == 0 {
				all = append(all, x)
			}
			counts[x]++
		}
	}
	slices.SortFunc(all, func(a, b api.Label) int {
		return cmp.Or(cmp.Compare(a.Name, b.Name), cmp.Compare(a.Value, b.Value))
	})
	for _, x := range all {
		w.small(uint64(counts[x]))
		ahead := 0
		for i := range postings(l, x) {
			w.small(uint64(i - ahead))
			ahead = i
		}
	}
}
