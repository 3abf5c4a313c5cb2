package build

import (
	"hypercube/api"
	"hypercube/cell"
	"hypercube/exec"
)

// cuboidBytes makes a set's cuboid, as bytes.
func (b *Builder) cuboidBytes(edge api.Edge) ([]byte, api.Errno) {
	from, of, e := b.source(edge)
	if e != api.OK {
		return nil, e
	}
	made, e := exec.One(from, of, edge.Set, b.config.Budget, b.config.Algorithm)
	if e != api.OK {
		return nil, e
	}
	b.high = max(b.high, made.High)
	bytes := cell.Encode(edge.Set, made.Cells)
	if len(bytes) == 0 { // somebody else's file, of more rows than there may be
		return nil, api.BadInput
	}
	return bytes, api.OK
}

// source answers what a set's cuboid is made of: cells, and the set whose they are.
func (b *Builder) source(edge api.Edge) ([]api.Cell, int, api.Errno) {
	if edge.Parent < 0 {
		f, e := factFile().read(b.store)
		return grouped(f.rows, edge.Set), edge.Set, e
	}
	cells, e := cuboidFile(b.schema, edge.Parent).read(b.store)
	return cells, edge.Parent, e
}

func grouped(rows []api.Row, set int) []api.Cell {
	var cells []api.Cell
	for _, r := range rows {
		cells = append(cells, cell.Of(r, set))
	}
	return cell.Group(cells)
}
