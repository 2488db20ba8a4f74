package plan

import (
	"alluvium/api"
	"alluvium/block"
	"alluvium/frame"
	"alluvium/label"
	"alluvium/meta"
	"alluvium/wal"
)

// file is a file, by what it has, and what it begins with.
type file interface {
	has() content
	magic() string
}

// content is what each file has.
type content struct {
	name  string
	bytes string
}

func (c content) has() content { return c }

// A store's files, and all others.
type (
	segment  struct{ content }
	oneBlock struct{ content }
	oneMeta  struct{ content }
	other    struct{ content }
)

func (segment) magic() string  { return "AWAL" }
func (oneBlock) magic() string { return "ABLK" }
func (oneMeta) magic() string  { return "AMET" }
func (other) magic() string    { return "" }

// fileOf is a file of a name.
func fileOf(name, bytes string) file {
	c := content{name, bytes}
	kind, _, _ := meta.Parse(name)
	switch {
	case name == metaName:
		return oneMeta{c}
	case kind == "wal":
		return segment{c}
	case kind == "block":
		return oneBlock{c}
	}
	return other{c}
}

// itemOf is a store's file as an item.
func itemOf(x file) Item {
	c := x.has()
	gen, _, _, _ := frame.Open(c.bytes, x.magic())
	return Item{Name: c.name, Gen: gen, Long: longest(x)}
}

// longest is how long the longest label in a file is.
func longest(x file) int {
	n := 0
	if y, ok := x.(oneBlock); ok {
		b, _, _ := block.Get(y.bytes)
		n = block.Longest(b)
	}
	if y, ok := x.(segment); ok {
		seg, _ := wal.Read(y.bytes)
		for _, r := range seg.Recs {
			n = max(n, label.Longest(r.Labels))
		}
	}
	return n
}

// Turn is a file's bytes for a generation.
func Turn(name, s string, gen int) (string, api.Errno) {
	if !isGen(gen) {
		return "", api.ErrArg
	}
	return turn(fileOf(name, s), gen)
}

// turn is a file's bytes for a generation that there is.
func turn(x file, gen int) (string, api.Errno) {
	switch y := x.(type) {
	case oneBlock:
		return block.Turn(y.bytes, gen)
	case segment:
		return turnSegment(y.bytes, gen)
	case oneMeta:
		m, err := meta.Get(y.bytes)
		if err != api.OK {
			return "", err
		}
		m.Gen = gen
		return meta.Put(m)
	}
	return "", api.ErrNone
}

// turnSegment is a segment's bytes for a generation, each change by itself.
func turnSegment(s string, gen int) (string, api.Errno) {
	seg, err := wal.Read(s)
	if err != api.OK {
		return "", err
	}
	out, w, _ := wal.Begin(gen)
	for i := range seg.Recs {
		b, next, err := wal.Put(w, seg.Recs[i:i+1])
		if err != api.OK {
			return "", err
		}
		out, w = out+b, next
	}
	return out, api.OK
}
