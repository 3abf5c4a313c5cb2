package build

import (
	"iter"

	"hypercube/api"
)

// deed is what is to be done next to the file that is under way, till it is committed.
type deed int

const (
	write deed = iota
	sync
	publish
)

// work is a file that is to be committed, and how its bytes are made.
type work struct {
	name  string
	bytes func() ([]byte, api.Errno)
}

// missing goes through all that is not committed yet, in order.
func (b *Builder) missing() iter.Seq[work] {
	return func(yield func(work) bool) {
		for w := range b.works() {
			if !b.has(w.name) && !yield(w) {
				return
			}
		}
	}
}

// works goes through all that a build commits: the plan, and each set's cuboid.
func (b *Builder) works() iter.Seq[work] {
	return func(yield func(work) bool) {
		if !yield(work{planName, b.planBytes}) {
			return
		}
		for _, edge := range b.plan {
			bytes := func() ([]byte, api.Errno) { return b.cuboidBytes(edge) }
			if !yield(work{Name(edge.Set), bytes}) {
				return
			}
		}
	}
}

func (b *Builder) has(name string) bool {
	_, is := b.store.Read(name)
	return is
}

// first answers the first item; false, if there is none.
func first[E any](items iter.Seq[E]) (E, bool) {
	for item := range items {
		return item, true
	}
	var none E
	return none, false
}

// commit does the next deed for a file.
func (b *Builder) commit(w work) api.Errno {
	e := b.do(w)
	if e == api.OK {
		b.next = (b.next + 1) % (publish + 1)
	}
	return e
}

func (b *Builder) do(w work) api.Errno {
	switch b.next {
	case sync:
		return b.store.Sync(underWay)
	case publish:
		return b.store.Publish(underWay, w.name)
	}
	bytes, e := w.bytes()
	if e != api.OK {
		return e
	}
	return b.store.Write(underWay, bytes)
}
