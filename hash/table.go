package hash

// entry is what a table keeps.
type entry[E any] interface {
	place() int        // where it is looked for, from 0 on; it goes round the slots
	like(other E) bool // whether they have one key
	with(later E) E    // what it comes to with one of its key
}

// slot is free, or has an entry.
type slot[E any] struct {
	entry E
	taken bool
}

// table is a ring of slots that has an entry for each key.
type table[E entry[E]] struct {
	slots []slot[E]
	used  int
}

// seek goes from an entry's place on, slot by slot, round, up to the first slot that has its key, or is free; nil, if there is none.
func (t *table[E]) seek(e E) *slot[E] {
	if len(t.slots) == 0 {
		return nil
	}
	first := e.place() % len(t.slots)
	at := first
probe:
	if s := &t.slots[at]; !s.taken || s.entry.like(e) {
		return s
	}
	at = (at + 1) % len(t.slots)
	// Only behind a step is it told whether that was the whole round: where it begins is where it ends.
	if at != first {
		goto probe
	}
	return nil
}

// put joins an entry to that of its key, behind it, or keeps it; false, if there is no slot for it.
func (t *table[E]) put(e E) bool {
	s := t.seek(e)
	if s == nil {
		return false
	}
	if s.taken {
		s.entry = s.entry.with(e)
		return true
	}
	*s = slot[E]{entry: e, taken: true}
	t.used++
	return true
}

// get answers the entry that has another one's key; false, if there is none.
func (t *table[E]) get(e E) (found E, is bool) {
	if s := t.seek(e); s != nil && s.taken {
		return s.entry, true
	}
	return found, false
}

// entries are all, as they stand in the slots.
func (t *table[E]) entries() []E {
	var list []E
	for _, s := range t.slots {
		if s.taken {
			list = append(list, s.entry)
		}
	}
	return list
}
