package store

// own is a list that is copied when it comes in and when it goes out, so that nobody else has its memory.
type own[E any] []E

func (o own[E]) all() own[E] { return o.first(len(o)) }

// first answers the first n in memory of their own.
func (o own[E]) first(n int) own[E] {
	if n == 0 {
		return nil // an empty piece would still hold on to the whole
	}
	// The third index leaves no room to append to: it must take new memory.
	return append(o[:0:0], o[:n]...)
}
