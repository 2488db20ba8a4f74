package engine

import (
	"slices"

	"alluvium/api"
	"alluvium/block"
	"alluvium/disk"
	"alluvium/frame"
	"alluvium/meta"
	"alluvium/simfs"
	"alluvium/truth"
	"alluvium/wal"
)

// The names of files that have no number.
const (
	metaName = "meta"
	journal  = "journal"
)

// What files begin with.
const (
	metaMagic  = "AMET"
	walMagic   = "AWAL"
	blockMagic = "ABLK"
)

func walName(n int) string { return meta.Name("wal", n) }

func blockName(n int) string { return meta.Name("block", n) }

// magicOf is what a file of that name begins with; nothing, if it is none of a store.
func magicOf(name string) string {
	kind, _, _ := meta.Parse(name)
	switch {
	case name == metaName:
		return metaMagic
	case kind == "wal":
		return walMagic
	case kind == "block":
		return blockMagic
	}
	return ""
}

// Gate tells whether files may be opened.
func Gate(f *simfs.Fs) api.Errno {
	if f == nil {
		return api.ErrArg
	}
	if f.Dead() {
		return api.ErrDead
	}
	names := f.List()
	for _, name := range names {
		magic := magicOf(name)
		if magic == "" {
			continue
		}
		s, _ := f.Read(name)
		if _, _, _, err := frame.Open(s, magic); err == api.ErrFuture {
			return api.ErrFuture
		}
	}
	if slices.Contains(names, journal) {
		return api.ErrBusy
	}
	return api.OK
}

// Load is what files tell: meta, base, state, and segment.
func Load(f *simfs.Fs) (meta.Meta, truth.State, truth.State, wal.Seg, api.Errno) {
	if err := Gate(f); err != api.OK {
		return none(err)
	}
	s, err := f.Read(metaName)
	if err != api.OK {
		return none(err)
	}
	m, err := meta.Get(s)
	if err != api.OK {
		return none(api.ErrCorrupt)
	}
	base, ok := loadBlocks(f, m.Blocks)
	if !ok {
		return none(api.ErrCorrupt)
	}
	s, err = f.Read(walName(m.Wal))
	seg, wrong := wal.Read(s)
	if err != api.OK || wrong != api.OK {
		return none(api.ErrCorrupt)
	}
	state, n := truth.All(base, seg.Recs)
	if n < len(seg.Recs) {
		return none(api.ErrCorrupt)
	}
	return m, base, state, seg, api.OK
}

// none is what Load answers with an error.
func none(err api.Errno) (meta.Meta, truth.State, truth.State, wal.Seg, api.Errno) {
	return meta.Meta{}, truth.State{}, truth.State{}, wal.Seg{}, err
}

// loadBlocks is a zero state, over which all blocks are, if all can be.
func loadBlocks(f *simfs.Fs, l []int) (truth.State, bool) {
	var s truth.State
	ok := true
blocks:
	for _, n := range l {
		text, none := f.Read(blockName(n))
		b, _, bad := block.Get(text)
		next, odd := block.Over(s, b)
		for _, err := range [...]api.Errno{none, bad, odd} {
			if err != api.OK {
				s, ok = truth.State{}, false
				break blocks
			}
		}
		s = next
	}
	return s, ok
}

// inOrder does things, up to the first that errs.
func inOrder(l ...func() api.Errno) api.Errno {
	for _, do := range l {
		if err := do(); err != api.OK {
			return err
		}
	}
	return api.OK
}

// Open opens a store; if there is none, a new one of a generation.
func Open(f *simfs.Fs, gen int) (*Store, api.Errno) {
	if f == nil {
		return nil, api.ErrArg
	}
	m, base, state, seg, err := Load(f)
	if err == api.ErrNone {
		return create(f, gen)
	}
	if err != api.OK {
		return nil, err
	}
	s := &Store{parts{files: f, made: m, base: base, state: state, writer: seg.Writer}}
	err = inOrder(
		func() api.Errno {
			if !seg.Torn {
				return api.OK
			}
			return disk.Repair(f, s.segment(), seg.Used)
		},
		func() api.Errno { return sweep(f, s.names()) },
	)
	if err != api.OK {
		return nil, err
	}
	return s, api.OK
}

// create makes a new store, where there is none.
func create(f *simfs.Fs, gen int) (*Store, api.Errno) {
	head, w, err := wal.Begin(gen)
	if err != api.OK {
		return nil, err
	}
	s := &Store{parts{files: f, made: meta.Meta{Gen: gen, Next: 1}, writer: w}}
	err = inOrder(
		func() api.Errno { return sweep(f, nil) },
		func() api.Errno { return disk.Save(f, s.segment(), head) },
		func() api.Errno { return saveMeta(f, s.made) },
	)
	if err != api.OK {
		return nil, err
	}
	return s, api.OK
}

// sweep removes all files but some.
func sweep(f *simfs.Fs, keep []string) api.Errno {
	_, err := disk.Sweep(f, keep)
	return err
}

// saveMeta saves what a store is made of.
func saveMeta(f *simfs.Fs, m meta.Meta) api.Errno {
	b, err := meta.Put(m)
	if err != api.OK {
		return err
	}
	return disk.Save(f, metaName, b)
}
