package build

import (
	"hypercube/api"
	"hypercube/sorts"
	"hypercube/tree"
)

// wordOf is what the plan's file says of an algorithm; nothing, if it is none.
func wordOf(algorithm int) string {
	switch algorithm {
	case api.BySort:
		return "sort"
	case api.ByHash:
		return "hash"
	}
	return ""
}

func planned(f facts, algorithm int) []api.Edge {
	if algorithm == api.ByHash {
		return tree.Plan(f.schema, len(f.rows))
	}
	return sorts.Plan(f.schema, len(f.rows))
}

func (b *Builder) planBytes() ([]byte, api.Errno) {
	return []byte(wordOf(b.config.Algorithm)), api.OK
}
