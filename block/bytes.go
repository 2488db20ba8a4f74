package block

import (
	"strings"

	"alluvium/api"
	"alluvium/chunk"
	"alluvium/frame"
	"alluvium/index"
	"alluvium/num"
	"alluvium/wal"
)

// magic is what a block's file begins with.
const magic = "ABLK"

// The flags of a block's file.
const (
	hasGone  = 1
	hasFloor = 2
)

// flags tells what a block has.
func flags(b Block) int {
	f := 0
	if len(b.Gone) > 0 {
		f |= hasGone
	}
	if b.Floor > 0 {
		f |= hasFloor
	}
	return f
}

// Put is a block as bytes.
func Put(b Block, gen int) (string, api.Errno) {
	if err := Valid(b, gen); err != api.OK {
		return "", err
	}
	gone, _, err := wal.Put(wal.Writer{Gen: gen}, b.Gone)
	if err != api.OK {
		return "", err
	}
	entries, chunks, err := putSeries(b.Series, gen)
	if err != api.OK {
		return "", err
	}
	floor := num.Small(uint64(b.Floor))
	if gen == 1 {
		floor = num.Wide(uint64(b.Floor))
	}
	return frame.Head(magic, gen, flags(b)) + frame.Put(floor) + frame.Put(gone) + frame.Put(entries) + chunks, api.OK
}

// putSeries is where the chunks of series are, and all chunks.
func putSeries(l []api.Series, gen int) (string, string, api.Errno) {
	var entries []index.Entry
	var chunks strings.Builder
	for _, x := range l {
		c, err := chunk.Put(x.Samples, gen)
		if err != api.OK {
			return "", "", err
		}
		entries = append(entries, index.Entry{Labels: x.Labels, Last: x.Last, Off: chunks.Len(), Len: len(c)})
		chunks.WriteString(c)
	}
	s, err := index.Put(entries, gen)
	return s, chunks.String(), err
}

// Get is the block that bytes are, and its generation.
func Get(s string) (Block, int, api.Errno) {
	gen, _, rest, err := frame.Open(s, magic)
	if err != api.OK {
		return Block{}, 0, err
	}
	b, ok := read(rest, gen)
	// nothing else is got than what would be put so
	if again, err := Put(b, gen); !ok || err != api.OK || again != s {
		return Block{}, 0, api.ErrCorrupt
	}
	return b, gen, api.OK
}

// read is the block of what is behind a head.
func read(rest string, gen int) (Block, bool) {
	ok := true
	section := func() string {
		b, behind, shape := frame.Get(rest, len(rest))
		ok = ok && shape == frame.Whole
		rest = behind
		return b
	}
	floor, okFloor := readFloor(section(), gen)
	gone, okGone := readGone(section(), gen)
	entries, err := index.Get(section(), gen)
	if !ok || !okFloor || !okGone || err != api.OK {
		return Block{}, false
	}
	series, ok := readSeries(entries, rest, gen)
	return Block{Floor: floor, Gone: gone, Series: series}, ok
}

// readFloor is the floor of a section.
func readFloor(s string, gen int) (int64, bool) {
	c := num.Cursor{S: s}
	read := c.Small
	if gen == 1 {
		read = c.Wide
	}
	n := read()
	return int64(n), c.Done()
}

// readGone are the changes of a section.
func readGone(s string, gen int) ([]api.Rec, bool) {
	head, _, _ := wal.Begin(gen)
	seg, err := wal.Read(head + s)
	return seg.Recs, err == api.OK && !seg.Torn
}

// readSeries are the series of entries, and their chunks.
func readSeries(entries []index.Entry, chunks string, gen int) ([]api.Series, bool) {
	var l []api.Series
	for _, e := range entries {
		if e.Off > len(chunks) || e.Len > len(chunks)-e.Off {
			return nil, false
		}
		samples, err := chunk.Get(chunks[e.Off:e.Off+e.Len], gen)
		if err != api.OK {
			return nil, false
		}
		l = append(l, api.Series{Labels: e.Labels, Samples: samples, Last: e.Last})
	}
	return l, true
}

// Turn is bytes as those of another generation.
func Turn(s string, gen int) (string, api.Errno) {
	b, _, err := Get(s)
	if err != api.OK {
		return "", err
	}
	return Put(b, gen)
}
