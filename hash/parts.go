package hash

import (
	"cmp"
	"slices"

	"hypercube/api"
	"hypercube/cell"
)

// part is cells that fit, in the order in which they came; their keys are alike ahead of the position.
type part struct {
	cells    []api.Cell
	position int
}

// wholeOf is a part of its own memory: parts are made of it in place.
func wholeOf(cells []api.Cell) part { return part{cells: slices.Clone(cells)} }

// groups is what parts came to.
type groups struct {
	slots int
	out   []api.Cell
	parts int
}

// add groups a part by one table, or apart, if it is too much for that.
func (g *groups) add(p part) {
	t := New(g.slots)
	for _, c := range p.cells {
		if !t.Put(c) {
			goto apart
		}
	}
	g.tell(t)
	return
apart:
	for _, smaller := range p.apart() {
		g.add(smaller)
	}
}

// tell adds a table's cells, rising by keys, as one part. They are not cloned: nobody has the table any more.
func (g *groups) tell(t *Table) {
	entries := t.entries()
	slices.SortFunc(entries, func(a, b keyed) int { return cell.Less(a.Key, b.Key) })
	for _, k := range entries {
		g.out = append(g.out, api.Cell(k))
	}
	g.parts++
}

// apart parts cells that have several keys by the value at the position, rising.
func (p part) apart() []part {
	at := p.parting()
	slices.SortStableFunc(p.cells, func(a, b api.Cell) int { return cmp.Compare(a.Key[at], b.Key[at]) })
	var parts []part
	for rest := p.cells; len(rest) > 0; {
		count := 1
		for count < len(rest) && rest[count].Key[at] == rest[0].Key[at] {
			count++
		}
		parts = append(parts, part{rest[:count], at + 1})
		rest = rest[count:]
	}
	return parts
}

// parting is the first position, from the part's on, at which keys differ. Ahead of it there is one part, the same: it would find no place again, so it is not tried.
func (p part) parting() int {
	at := p.position
	for p.alike(at) {
		at++
	}
	return at
}

func (p part) alike(at int) bool {
	for _, c := range p.cells {
		if c.Key[at] != p.cells[0].Key[at] {
			return false
		}
	}
	return true
}
