package block

import (
	"iter"
	"slices"

	"alluvium/api"
	"alluvium/label"
	"alluvium/match"
	"alluvium/truth"
)

// raises is the Kind of an operation that raises the floor.
const raises = 2

// newest is the newest generation.
const newest = 3

// Diff is how one state comes of another one.
func Diff(from, to truth.State) Block {
	var b Block
	if to.Floor > from.Floor {
		b.Floor = to.Floor
	}
	for _, x := range from.Series {
		there, _ := samplesOf(to, x.Labels)
		gone := func(s api.Sample) bool { return s.T >= b.Floor && !slices.Contains(there, s) }
		for first, last := range rows(x.Samples, gone) {
			b.Gone = append(b.Gone, api.Rec{Kind: deletes, Labels: slices.Clone(x.Labels), T: first, To: last})
		}
	}
	for _, x := range to.Series {
		had, last := samplesOf(from, x.Labels)
		came := slices.DeleteFunc(slices.Clone(x.Samples), func(s api.Sample) bool { return slices.Contains(had, s) })
		if len(came) > 0 || last != x.Last || truth.Find(from, x.Labels) < 0 {
			b.Series = append(b.Series, api.Series{Labels: slices.Clone(x.Labels), Samples: came, Last: x.Last})
		}
	}
	return b
}

// samplesOf are the samples of the series of these labels, and its last time; none, if there is no such series.
func samplesOf(s truth.State, l []api.Label) ([]api.Sample, int64) {
	at := truth.Find(s, l)
	if at < 0 {
		return nil, 0
	}
	return s.Series[at].Samples, s.Series[at].Last
}

// rows tells of each row of samples that are wanted, and stand one behind the other, the first time and the last one.
func rows(l []api.Sample, wanted func(s api.Sample) bool) iter.Seq2[int64, int64] {
	return func(yield func(int64, int64) bool) {
		for i := 0; i < len(l); i++ {
			from := i
			for i < len(l) && wanted(l[i]) {
				i++
			}
			if i > from && !yield(l[from].T, l[i-1].T) {
				return
			}
		}
	}
}

// Over is a state with what was changed.
func Over(s truth.State, b Block) (truth.State, api.Errno) {
	same, _ := truth.All(s, nil)
	next, _ := truth.All(s, nil)
	for _, r := range b.Gone {
		if at := truth.Find(next, r.Labels); at >= 0 {
			next.Series[at].Samples = match.Without(next.Series[at].Samples, r.T, r.To)
		}
	}
	if b.Floor > next.Floor {
		raised, a, _ := truth.Do(next, api.Op{Kind: raises, T: b.Floor}, newest)
		if a.Err != api.OK {
			return same, api.ErrCorrupt
		}
		next = raised
	}
	for _, x := range b.Series {
		next.Series = with(next, x)
	}
	next.Series = slices.DeleteFunc(next.Series, func(x api.Series) bool { return len(x.Samples) == 0 && x.Last < next.Floor })
	if !truth.Valid(next) {
		return same, api.ErrCorrupt
	}
	return next, api.OK
}

// with are the series of a state, with the samples of one more behind those of its labels.
func with(s truth.State, x api.Series) []api.Series {
	at := truth.Find(s, x.Labels)
	if at < 0 {
		at = slices.IndexFunc(s.Series, func(y api.Series) bool { return !label.Less(y.Labels, x.Labels) })
		if at < 0 {
			at = len(s.Series)
		}
		s.Series = slices.Insert(s.Series, at, api.Series{Labels: slices.Clone(x.Labels)})
	}
	s.Series[at].Samples = append(s.Series[at].Samples, x.Samples...)
	s.Series[at].Last = x.Last
	return s.Series
}
