package wal

import (
	"slices"
	"strings"

	"alluvium/api"
	"alluvium/crc"
	"alluvium/frame"
	"alluvium/label"
	"alluvium/num"
)

// form is how a generation tells changes, behind those that were told.
type form interface {
	// put is changes that are Valid as bytes, if none of their frames is too long.
	put(l []api.Rec) (string, bool)
	// take is the changes that s, which has some bytes, begins with, and what is behind them; they need not be Valid.
	take(s string) ([]api.Rec, string, frame.Shape)
	// known are the keys of the series that were told.
	known() []string
}

// formOf is the form of a generation, behind what told these keys.
func formOf(gen int, keys []string) form {
	n := &names{keys: slices.Clone(keys), places: make(map[string]int, len(keys))}
	for i := len(keys) - 1; i >= 0; i-- {
		n.places[keys[i]] = i
	}
	switch gen {
	case 1:
		return first{n}
	case 2:
		return second{n}
	}
	return third{second{n}}
}

const (
	most   = 20000 // bytes that a frame has in it at most
	record = 186   // bytes of a change in generation 1
	width  = 12    // bytes of a name, or a value, there
)

// names are the keys of series that were told, and the place of each.
type names struct {
	keys   []string
	places map[string]int
}

func (n *names) known() []string { return n.keys }

// add makes a key the last one.
func (n *names) add(key string) {
	n.places[key] = len(n.keys)
	n.keys = append(n.keys, key)
}

// series tells a series by its place, and by its key, if it was not told yet.
func (n *names) series(l []api.Label) string {
	key := label.Key(l)
	if at, ok := n.places[key]; ok {
		return num.Small(uint64(at))
	}
	n.add(key)
	return num.Small(uint64(len(n.keys)-1)) + num.Text(key)
}

// readSeries is the labels that series told; c is bad, if it told none so.
func (n *names) readSeries(c *num.Cursor) []api.Label {
	at := c.Small()
	if !c.Bad && at == uint64(len(n.keys)) {
		key := c.Text(len(c.S))
		_, known := n.places[key]
		if _, ok := label.Of(key); !ok || known {
			c.Bad = true
			return nil
		}
		n.add(key)
	}
	if c.Bad || at >= uint64(len(n.keys)) {
		c.Bad = true
		return nil
	}
	l, _ := label.Of(n.keys[at])
	return l
}

// first is generation 1: records of one length.
type first struct{ *names }

func (f first) put(l []api.Rec) (string, bool) {
	var b strings.Builder
	for _, r := range l {
		b.WriteString(fixed(r))
	}
	return b.String(), true
}

// fixed is a change as a record.
func fixed(r api.Rec) string {
	b := string([]byte{byte(r.Kind)}) + num.Wide(uint64(r.T)) + num.Wide(uint64(r.To)) + num.Wide(r.V) + string([]byte{byte(len(r.Labels))})
	var places [api.MaxLabels]api.Label
	copy(places[:], r.Labels)
	for _, x := range places {
		b += num.Fixed(x.Name, width) + num.Fixed(x.Value, width)
	}
	return b + crc.Tail(b)
}

func (f first) take(s string) ([]api.Rec, string, frame.Shape) {
	if len(s) < record {
		return nil, s, frame.Short
	}
	r, ok := readFixed(s[:record])
	if !ok || fixed(r) != s[:record] {
		return nil, s, frame.Wrong
	}
	return []api.Rec{r}, s[record:], frame.Whole
}

// readFixed is the change of a record.
func readFixed(s string) (api.Rec, bool) {
	c := num.Cursor{S: s}
	r := api.Rec{Kind: int(c.Take(1)[0]), T: int64(c.Wide()), To: int64(c.Wide()), V: c.Wide()}
	n := int(c.Take(1)[0])
	for i := range api.MaxLabels {
		x := api.Label{Name: c.Fixed(width), Value: c.Fixed(width)}
		if i < n {
			r.Labels = append(r.Labels, x)
		}
	}
	return r, !c.Bad && n <= api.MaxLabels
}

// second is generation 2: a frame for each change, and series by their places.
type second struct{ *names }

func (f second) put(l []api.Rec) (string, bool) {
	var b strings.Builder
	for _, r := range l {
		in := f.tell(r, func(r api.Rec) string { return num.Small(uint64(r.T)) + num.Wide(r.V) })
		if len(in) > most {
			return "", false
		}
		b.WriteString(frame.Put(in))
	}
	return b.String(), true
}

// tell is a change as bytes; its sample is told by sample.
func (f second) tell(r api.Rec, sample func(r api.Rec) string) string {
	kind := num.Small(uint64(r.Kind))
	switch r.Kind {
	case appends:
		return kind + f.series(r.Labels) + sample(r)
	case deletes:
		return kind + f.series(r.Labels) + num.Small(num.Zig(r.T)) + num.Small(num.Zig(r.To))
	}
	return kind + num.Small(uint64(r.T))
}

func (f second) take(s string) ([]api.Rec, string, frame.Shape) {
	b, rest, shape := frame.Get(s, most)
	if shape != frame.Whole {
		return nil, s, shape
	}
	c := &num.Cursor{S: b}
	r := f.read(c, func() (int64, uint64) { return int64(c.Small()), c.Wide() })
	if !c.Done() {
		return nil, s, frame.Wrong
	}
	return []api.Rec{r}, rest, frame.Whole
}

// read is the change that tell told; its sample is read by sample.
func (f second) read(c *num.Cursor, sample func() (int64, uint64)) api.Rec {
	r := api.Rec{Kind: int(c.Small())}
	switch r.Kind {
	case appends:
		r.Labels = f.readSeries(c)
		r.T, r.V = sample()
	case deletes:
		r.Labels = f.readSeries(c)
		r.T, r.To = num.Zag(c.Small()), num.Zag(c.Small())
	case raises:
		r.T = int64(c.Small())
	default:
		c.Bad = true
	}
	return r
}

// third is generation 3: one frame for all changes, and samples by how they differ from the ones ahead.
type third struct{ second }

func (f third) put(l []api.Rec) (string, bool) {
	if len(l) == 0 {
		return "", true
	}
	var b strings.Builder
	b.WriteString(num.Small(uint64(len(l))))
	var t int64
	var v uint64
	for _, r := range l {
		b.WriteString(f.tell(r, func(r api.Rec) string {
			s := num.Small(num.Zig(r.T-t)) + num.Small(r.V^v)
			t, v = r.T, r.V
			return s
		}))
		if b.Len() > most {
			return "", false
		}
	}
	return frame.Put(b.String()), true
}

func (f third) take(s string) ([]api.Rec, string, frame.Shape) {
	b, rest, shape := frame.Get(s, most)
	if shape != frame.Whole {
		return nil, s, shape
	}
	c := &num.Cursor{S: b}
	var l []api.Rec
	var t int64
	var v uint64
	n := c.Small()
	for uint64(len(l)) < n && !c.Bad {
		l = append(l, f.read(c, func() (int64, uint64) {
			t += num.Zag(c.Small())
			v ^= c.Small()
			return t, v
		}))
	}
	if n == 0 || !c.Done() {
		return nil, s, frame.Wrong
	}
	return l, rest, frame.Whole
}
