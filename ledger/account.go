package ledger

// amount has a sign: what is below 0 comes in, and is refused.
type amount interface {
	~int | ~int8 | ~int16 | ~int32 | ~int64
}

// mark is an amount, from 0 on, and the most that it has been.
type mark[N amount] struct{ now, most N }

func (m *mark[N]) move(to N) {
	m.now = to
	m.most = max(m.most, to)
}

// account is what is used of a budget.
type account[N amount] struct {
	mark[N]
	budget N
}

// left can't go round: of a budget below 0 nothing is ever used.
func (a *account[N]) left() N { return a.budget - a.now }

func (a *account[N]) take(n N) bool {
	// Not now + n held against the budget: that sum goes round for a great n.
	if n < 0 || n > a.left() {
		return false
	}
	a.move(a.now + n)
	return true
}

func (a *account[N]) give(n N) bool {
	if n < 0 || n > a.now {
		return false
	}
	a.move(a.now - n)
	return true
}
