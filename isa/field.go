package isa

import "quilt/api"

// mostRow is the greatest row that a shape may have.
const mostRow = api.MaxSide * api.MaxChans

// A field is a number of a command that is told of its kind: where it stands, its bounds, and how many bytes it has.
type field struct {
	at                *int
	least, most, wide int
}

func (f field) beyond() bool { return *f.at < f.least || *f.at > f.most }

// fields are those of c's kind, in the order of their bytes; false, if it is none. May, Put and Take all go by them, so that they can't be at odds.
func fields(c *api.Cmd) ([]field, bool) {
	sem := field{&c.Sem, 0, api.MaxSems - 1, 1}
	node := field{&c.Node, 0, api.MaxNodes - 1, 1}
	first := field{&c.First, 0, api.MaxSide - 1, 1}
	rows := field{&c.Rows, 1, api.MaxSide, 1}
	row := field{&c.Row, 1, mostRow, 2}
	dram := field{&c.Dram, 0, api.MaxDram - 1, 3}
	pad := field{&c.Pad, 0, api.PadSize - 1, 2}
	in := func(i int) field { return field{&c.In[i], 0, api.PadSize - 1, 2} }
	base := func(i int) field { return field{&c.Base[i], 0, api.MaxSide - 1, 1} }
	have := func(i int) field { return field{&c.Have[i], 0, api.MaxSide, 1} }
	switch c.Kind {
	case api.CmLoad, api.CmStore:
		return told(rows, row, dram, pad)
	case api.CmTile:
		return told(node, first, rows, pad, in(0), base(0), have(0), in(1), base(1), have(1))
	case api.CmKernel:
		return told(node, rows)
	case api.CmWait, api.CmSignal:
		return told(sem)
	case api.CmHalt:
		return told()
	}
	return nil, false
}

// told takes as many as a kind has: none, too, are those of a kind that there is.
func told(l ...field) ([]field, bool) { return l, true }
