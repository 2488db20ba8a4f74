package index

import (
	"alluvium/api"
	"alluvium/crc"
	"alluvium/num"
)

const (
	longest = 48                                // bytes of a symbol at most
	most    = 2 * api.MaxLabels * api.MaxSeries // symbols at most
)

// Get is the entries that bytes are.
func Get(s string, gen int) ([]Entry, api.Errno) {
	if !isGen(gen) {
		return nil, api.ErrArg
	}
	b, ok := crc.Good(s)
	if !ok {
		return nil, api.ErrCorrupt
	}
	r := &reader{Cursor: num.Cursor{S: b}}
	l := r.entries(gen)
	// nothing else is got than what would be put so; that tells the postings, too
	if again, err := Put(l, gen); r.Bad || err != api.OK || again != s {
		return nil, api.ErrCorrupt
	}
	return l, api.OK
}

// reader is bytes of entries, the symbols that were read, the last time ahead, and where the chunk ahead ends.
type reader struct {
	num.Cursor
	symbols []string
	last    int64
	end     int64
}

// entries are all that are told.
func (r *reader) entries(gen int) []Entry {
	count := [...]func() uint64{r.Wide, r.Small, r.Small}[gen-1]
	one := [...]func() Entry{r.first, r.second, r.third}[gen-1]
	if gen > 1 {
		r.readSymbols(gen == 3)
	}
	var l []Entry
	for range r.atMost(count(), api.MaxSeries) {
		l = append(l, one())
	}
	return l
}

// atMost is n, if that is not above most; else r is bad.
func (r *reader) atMost(n uint64, most int) int {
	if r.Bad || n > uint64(most) {
		r.Bad = true
		return 0
	}
	return int(n)
}

// readSymbols reads all symbols; shared tells whether each begins as the one ahead does.
func (r *reader) readSymbols(shared bool) {
	ahead := ""
	for range r.atMost(r.Small(), most) {
		n := 0
		if shared {
			n = r.atMost(r.Small(), len(ahead))
		}
		ahead = ahead[:n] + r.Text(longest)
		r.symbols = append(r.symbols, ahead)
	}
}

// symbol is the symbol whose place is told.
func (r *reader) symbol() string {
	at := r.Small()
	if at >= uint64(len(r.symbols)) {
		r.Bad = true
	}
	if r.Bad {
		return ""
	}
	return r.symbols[at]
}

// first is an entry of generation 1.
func (r *reader) first() Entry {
	var e Entry
	n := r.Take(1)
	for i := 0; !r.Bad && i < int(n[0]); i++ {
		e.Labels = append(e.Labels, api.Label{Name: r.Fixed(width), Value: r.Fixed(width)})
	}
	e.Last, e.Off, e.Len = int64(r.Wide()), int(r.Wide()), int(r.Wide())
	return e
}

// labels are those of an entry, by the places of symbols.
func (r *reader) labels() []api.Label {
	var l []api.Label
	for range r.atMost(r.Small(), api.MaxLabels) {
		l = append(l, api.Label{Name: r.symbol(), Value: r.symbol()})
	}
	return l
}

// second is an entry of generation 2.
func (r *reader) second() Entry {
	return Entry{Labels: r.labels(), Last: int64(r.Small()), Off: int(r.Small()), Len: int(r.Small())}
}

// third is an entry of generation 3.
func (r *reader) third() Entry {
	e := Entry{Labels: r.labels()}
	e.Last = r.last + num.Zag(r.Small())
	off := r.end + num.Zag(r.Small())
	e.Off, e.Len = int(off), int(r.Small())
	r.last, r.end = e.Last, off+int64(e.Len)
	return e
}
