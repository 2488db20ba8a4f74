package truth

import (
	"math"
	"slices"

	"alluvium/api"
	"alluvium/label"
	"alluvium/match"
)

// work is what is being done to a state of its own: what it errs with has changed nothing.
type work struct {
	State
	places map[key]int
	op     api.Op
	gen    int
	answer api.Answer
	recs   []api.Rec
}

// key is labels as a map can have them. There is one place more than labels may be, so that more are no other ones.
type key [api.MaxLabels + 1]api.Label

func keyOf(l []api.Label) key {
	var k key
	copy(k[:], l)
	return k
}

// firsts tells of each key the first series that has it.
func firsts(l []api.Series) map[key]int {
	m := make(map[key]int, len(l))
	for i := len(l) - 1; i >= 0; i-- {
		m[keyOf(l[i].Labels)] = i
	}
	return m
}

// find is the place of the first series of these labels. Labels that may not be can have the key of others: so it goes on behind the first one.
func find(l []api.Series, places map[key]int, x []api.Label) int {
	at, ok := places[keyOf(x)]
	for ok && at < len(l) {
		if label.Same(l[at].Labels, x) {
			return at
		}
		at++
	}
	return -1
}

// begin is work on a copy of a state.
func begin(s State) *work {
	w := &work{State: State{Floor: s.Floor, Series: slices.Clone(s.Series)}}
	for i, x := range w.Series {
		w.Series[i].Labels = slices.Clone(x.Labels)
		w.Series[i].Samples = slices.Clone(x.Samples)
	}
	w.places = firsts(w.Series)
	return w
}

// tell adds a change to what is answered, and how many samples it is about.
func (w *work) tell(n int, r api.Rec) {
	w.answer.N += n
	w.recs = append(w.recs, r)
}

// add does an operation that appends.
func (w *work) add() api.Errno {
	o := w.op
	done, err := w.put(o.Labels, o.T, o.V, w.gen)
	if done {
		w.tell(1, api.Rec{Kind: appends, Labels: slices.Clone(o.Labels), T: o.T, V: o.V})
	}
	return err
}

// remove does an operation that deletes.
func (w *work) remove() api.Errno {
	o := w.op
	if err := w.asked(); err != api.OK {
		return err
	}
	for i, x := range w.Series {
		if !match.All(o.Matchers, x.Labels) {
			continue
		}
		if n := w.drop(i, o.T, o.To); n > 0 {
			w.tell(n, api.Rec{Kind: deletes, Labels: slices.Clone(x.Labels), T: o.T, To: o.To})
		}
	}
	return api.OK
}

// keep does an operation that keeps nothing ahead of a time.
func (w *work) keep() api.Errno {
	t := w.op.T
	if !isTime(t) {
		return api.ErrArg
	}
	if t > w.Floor {
		w.tell(w.raise(t), api.Rec{Kind: raises, T: t})
	}
	return api.OK
}

// ask does an operation that asks.
func (w *work) ask() api.Errno {
	o := w.op
	if err := w.asked(); err != api.OK {
		return err
	}
	for _, x := range w.Series {
		if !match.All(o.Matchers, x.Labels) {
			continue
		}
		if l := match.Between(x.Samples, o.T, o.To); len(l) > 0 {
			w.answer.Series = append(w.answer.Series, api.Series{Labels: slices.Clone(x.Labels), Samples: l})
		}
	}
	return api.OK
}

// asked tells whether matchers, and a time from T up to To, may be asked for.
func (w *work) asked() api.Errno {
	if match.Check(w.op.Matchers) != api.OK || w.op.T > w.op.To {
		return api.ErrArg
	}
	return api.OK
}

// apply does a change, if it could have been.
func (w *work) apply(r api.Rec) api.Errno {
	could := false
	switch r.Kind {
	case appends:
		could, _ = w.put(r.Labels, r.T, r.V, newest)
	case deletes:
		at := find(w.Series, w.places, r.Labels)
		could = at >= 0 && w.drop(at, r.T, r.To) > 0
	case raises:
		if could = isTime(r.T) && r.T > w.Floor; could {
			w.raise(r.T)
		}
	}
	if !could {
		return api.ErrCorrupt
	}
	return api.OK
}

// put appends a sample, if it may be, and is not there yet: whether it did.
func (w *work) put(l []api.Label, t int64, v uint64, gen int) (bool, api.Errno) {
	if err := label.Check(l); err != api.OK {
		return false, err
	}
	if label.Longest(l) > label.Limit(gen) {
		return false, api.ErrLong
	}
	if !isTime(t) {
		return false, api.ErrArg
	}
	if t < w.Floor {
		return false, api.ErrLate
	}
	at := find(w.Series, w.places, l)
	if at < 0 {
		if len(w.Series) >= api.MaxSeries {
			return false, api.ErrMany
		}
		at = w.insert(l)
	} else if err := behind(w.Series[at], t, v); err != api.OK || t == w.Series[at].Last {
		return false, err
	}
	x := &w.Series[at]
	x.Samples = append(x.Samples, api.Sample{T: t, V: v})
	x.Last = t
	return true, api.OK
}

// behind tells whether a sample may be behind those of a series, or is its last one.
func behind(x api.Series, t int64, v uint64) api.Errno {
	switch {
	case t < x.Last:
		return api.ErrOrder
	case t == x.Last && slices.Contains(x.Samples, api.Sample{T: t, V: v}):
		return api.OK
	case t == x.Last:
		return api.ErrDup
	case len(x.Samples) >= api.MaxSamples:
		return api.ErrMany
	}
	return api.OK
}

// insert makes a new series, ahead of the first one that is not ahead of it: its place.
func (w *work) insert(l []api.Label) int {
	at := 0
	for at < len(w.Series) && label.Less(w.Series[at].Labels, l) {
		at++
	}
	w.Series = slices.Insert(w.Series, at, api.Series{Labels: slices.Clone(l)})
	w.places = firsts(w.Series)
	return at
}

// drop lets the samples of a series from from up to to go: how many.
func (w *work) drop(at int, from, to int64) int {
	x := &w.Series[at]
	rest := match.Without(x.Samples, from, to)
	n := len(x.Samples) - len(rest)
	x.Samples = rest
	return n
}

// raise raises the floor: how many samples went.
func (w *work) raise(floor int64) int {
	w.Floor = floor
	went := 0
	var rest []api.Series
	for _, x := range w.Series {
		kept := match.Between(x.Samples, floor, math.MaxInt64)
		went += len(x.Samples) - len(kept)
		x.Samples = kept
		if len(kept) > 0 || x.Last >= floor {
			rest = append(rest, x)
		}
	}
	w.Series = rest
	w.places = firsts(rest)
	return went
}
