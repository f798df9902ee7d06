package isa

import (
	"fmt"
	"math"
	"slices"
	"testing"

	"quilt/api"
)

// dice are numbers by a rule: the same in each run.
type dice uint64

func (d *dice) below(n int) int {
	*d = *d*6364136223846793005 + 1442695040888963407
	return int(uint64(*d)>>33) % n
}

// A part is a number of a command beside its Kind.
type part int

const (
	sem part = iota
	node
	first
	rows
	row
	dram
	pad
	in0
	in1
	base0
	base1
	have0
	have1
	parts
)

func names() []string {
	return []string{"Sem", "Node", "First", "Rows", "Row", "Dram", "Pad", "In 0", "In 1", "Base 0", "Base 1", "Have 0", "Have 1"}
}

func at(c *api.Cmd, p part) *int {
	return []*int{&c.Sem, &c.Node, &c.First, &c.Rows, &c.Row, &c.Dram, &c.Pad, &c.In[0], &c.In[1], &c.Base[0], &c.Base[1], &c.Have[0], &c.Have[1]}[p]
}

// with is c with one of its parts another number.
func with(c api.Cmd, p part, x int) api.Cmd {
	*at(&c, p) = x
	return c
}

// A limit is what the chapter says of a part: its bounds, and how many bytes it has.
type limit struct {
	part              part
	least, most, wide int
}

// kinds are those of the chapter, with their parts in the order of their bytes, each number as it stands there.
func kinds() map[int][]limit {
	copied := []limit{{rows, 1, 16, 1}, {row, 1, 128, 2}, {dram, 0, 65535, 3}, {pad, 0, 1023, 2}}
	return map[int][]limit{
		1: copied,
		2: copied,
		3: {{node, 0, 11, 1}, {first, 0, 15, 1}, {rows, 1, 16, 1}, {pad, 0, 1023, 2}, {in0, 0, 1023, 2}, {base0, 0, 15, 1}, {have0, 0, 16, 1}, {in1, 0, 1023, 2}, {base1, 0, 15, 1}, {have1, 0, 16, 1}},
		4: {{node, 0, 11, 1}, {rows, 1, 16, 1}},
		5: {{sem, 0, 7, 1}},
		6: {{sem, 0, 7, 1}},
		7: {},
	}
}

// filled is a command of a kind of which each part is told by pick.
func filled(kind int, pick func(l limit) int) api.Cmd {
	c := api.Cmd{Kind: kind}
	for _, l := range kinds()[kind] {
		*at(&c, l.part) = pick(l)
	}
	return c
}

func least(kind int) api.Cmd { return filled(kind, func(l limit) int { return l.least }) }

func most(kind int) api.Cmd { return filled(kind, func(l limit) int { return l.most }) }

func (d *dice) cmd(kind int) api.Cmd {
	return filled(kind, func(l limit) int { return l.least + d.below(l.most-l.least+1) })
}

// some are commands of a kind that may be: the least, the greatest, and others.
func some(kind int) []api.Cmd {
	d := dice(kind)
	l := []api.Cmd{least(kind), most(kind)}
	for range 6 {
		l = append(l, d.cmd(kind))
	}
	return l
}

// every is a stream of commands of all kinds.
func every() []api.Cmd {
	var l []api.Cmd
	for kind := 1; kind <= 7; kind++ {
		l = append(l, some(kind)...)
	}
	return l
}

// stream is one by dice, of so many.
func (d *dice) stream(many int) []api.Cmd {
	var l []api.Cmd
	for range many {
		l = append(l, d.cmd(1+d.below(7)))
	}
	return l
}

// may is what the chapter says of a command, asked part by part.
func may(c api.Cmd) bool {
	limits, there := kinds()[c.Kind]
	if !there {
		return false
	}
	for p := range parts {
		l := limit{part: p}
		if i := slices.IndexFunc(limits, func(l limit) bool { return l.part == p }); i >= 0 {
			l = limits[i]
		}
		if x := *at(&c, p); x < l.least || x > l.most {
			return false
		}
	}
	return true
}

// short is a stream written out by hand, with its bytes.
func short() []api.Cmd {
	return []api.Cmd{
		{Kind: api.CmLoad, Rows: 3, Row: 128, Dram: 0xABCD, Pad: 0x0123},
		{Kind: api.CmSignal, Sem: 7},
		{Kind: api.CmWait, Sem: 2},
		{Kind: api.CmTile, Node: 11, First: 15, Rows: 16, Pad: 0x03FF, In: [2]int{0x0102, 0x0203}, Base: [2]int{4, 5}, Have: [2]int{6, 16}},
		{Kind: api.CmStore, Rows: 16, Row: 1, Dram: 0x0102, Pad: 9},
		{Kind: api.CmKernel, Node: 10, Rows: 12},
		{Kind: api.CmHalt},
	}
}

func shortBytes() []byte {
	return slices.Concat(
		[]byte{0, 7},
		[]byte{1, 3, 0, 128, 0, 0xAB, 0xCD, 1, 0x23},
		[]byte{6, 7},
		[]byte{5, 2},
		[]byte{3, 11, 15, 16, 3, 0xFF, 1, 2, 4, 6, 2, 3, 5, 16},
		[]byte{2, 16, 0, 1, 0, 1, 2, 0, 9},
		[]byte{4, 10, 12},
		[]byte{7},
	)
}

// far are numbers out of any bounds, those among them of which the lowest bytes would be within.
func far() []int {
	return []int{-1, -2, -256, 1 << 16, 1 << 24, 1<<24 + 1, 1<<32 + 1, -1 << 24, 1 - 1<<32, 1<<63 - 256, math.MaxInt32, math.MinInt32, math.MaxInt, math.MinInt, math.MinInt + 1}
}

// cut is a text of a list that a failed test tells, but not much of a long one.
func cut[T any](l []T) string {
	if len(l) > 30 {
		return fmt.Sprintf("%+v and %d more", l[:30], len(l)-30)
	}
	return fmt.Sprintf("%+v", l)
}

// The tests' own list of parts has all there are: what is left out would never be asked for.
func TestPartsAreAll(t *testing.T) {
	var c api.Cmd
	for p := range parts {
		*at(&c, p) = 1
	}
	if c != (api.Cmd{Sem: 1, Node: 1, First: 1, Rows: 1, Row: 1, Dram: 1, Pad: 1, In: [2]int{1, 1}, Base: [2]int{1, 1}, Have: [2]int{1, 1}}) || len(names()) != int(parts) {
		t.Errorf("%+v", c)
	}
}
