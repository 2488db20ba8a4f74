package engine

import (
	"slices"

	"alluvium/api"
	"alluvium/block"
	"alluvium/disk"
	"alluvium/frame"
	"alluvium/meta"
	"alluvium/truth"
	"alluvium/wal"
)

const (
	mostBlocks = 40
	mostNumber = 999999 // of a file
)

// segment is the name of the store's segment.
func (s *Store) segment() string { return walName(s.made.Wal) }

// blocks are the names of the store's blocks.
func (s *Store) blocks() []string {
	var l []string
	for _, n := range s.made.Blocks {
		l = append(l, blockName(n))
	}
	return l
}

// names are those of all files of the store.
func (s *Store) names() []string { return append(s.blocks(), s.segment(), metaName) }

// cut lets a block tell what the segment told, and a new segment of a generation begin.
func (s *Store) cut(gen int) api.Errno {
	if len(s.made.Blocks) >= mostBlocks {
		return api.ErrMany
	}
	same := truth.Same(s.state, s.base)
	if same && gen == s.made.Gen {
		return api.OK
	}
	m := copied(s.made)
	m.Gen = gen
	if !same {
		m.Blocks = append(m.Blocks, m.Next)
		m.Next++
	}
	m.Wal = m.Next
	m.Next++
	old := s.segment()
	head, w, _ := wal.Begin(gen)
	err := s.replace(m,
		func() api.Errno {
			if same {
				return api.OK
			}
			return s.saveBlock(m, block.Diff(s.base, s.state))
		},
		func() api.Errno { return disk.Save(s.files, walName(m.Wal), head) },
	)
	if err != api.OK {
		return err
	}
	s.base, s.writer = s.state, w
	return s.without(old)
}

// compact makes one block of all.
func (s *Store) compact() api.Errno {
	l := s.made.Blocks
	if len(l) == 0 || len(l) == 1 && s.genOf(blockName(l[0])) == s.made.Gen {
		return api.OK
	}
	m := copied(s.made)
	m.Blocks = []int{m.Next}
	m.Next++
	old := s.blocks()
	err := s.replace(m, func() api.Errno { return s.saveBlock(m, block.Diff(truth.State{}, s.base)) })
	if err != api.OK {
		return err
	}
	return s.without(old...)
}

// genOf is the generation of a block's file.
func (s *Store) genOf(name string) int {
	text, _ := s.files.Read(name)
	gen, _, _, _ := frame.Open(text, blockMagic)
	return gen
}

// saveBlock saves a block as the last one of a meta, for its generation.
func (s *Store) saveBlock(m meta.Meta, b block.Block) api.Errno {
	text, err := block.Put(b, m.Gen)
	if err != api.OK {
		return err
	}
	return disk.Save(s.files, blockName(m.Blocks[len(m.Blocks)-1]), text)
}

// replace makes new files, and then lets the store be made of them: with an error there is none of them.
func (s *Store) replace(m meta.Meta, files ...func() api.Errno) api.Errno {
	if m.Next > mostNumber {
		return api.ErrMany
	}
	before := s.files.List()
	err := inOrder(append(files, func() api.Errno { return saveMeta(s.files, m) })...)
	if err != api.OK {
		sweep(s.files, before)
		return err
	}
	s.made = m
	return api.OK
}

// without removes files that are the store's no more.
func (s *Store) without(old ...string) api.Errno {
	return sweep(s.files, slices.DeleteFunc(s.files.List(), func(name string) bool { return slices.Contains(old, name) }))
}
