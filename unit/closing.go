package unit

// closing is what one call has found so far.
type closing struct {
	// forced keeps the order in which literals are found: the last ones still wait for their turn.
	forced []int
	// held is, of a variable, its literal that is forced.
	held map[uint]int
	// rows are, of a literal, clauses in which it stands. Two literals of a clause are enough: while neither of them is forced the other way round, it forces nothing.
	rows map[int][]*waiting
}

// waiting is a clause with the two literals in whose rows it is, and what stands behind them. Whatever else stands ahead of the rest is forced the other way round, or is one of the two again, so that nobody looks at it twice.
type waiting struct {
	one, two int
	rest     []int
}

// closeUp is all that is forced, in no order to be told; or there is a clash.
func closeUp(l [][]int, assume []int) (forced []int, clash bool) {
	s := closing{held: map[uint]int{}, rows: map[int][]*waiting{}}
	for _, x := range assume {
		if s.force(x) {
			return nil, true
		}
	}
	if s.enter(l) {
		return nil, true
	}
	for at := 0; at < len(s.forced); at++ {
		if s.drop(-s.forced[at]) {
			return nil, true
		}
	}
	return s.forced, false
}

// force adds a literal to those that are forced.
func (s *closing) force(x int) (clash bool) {
	v := variable(x)
	switch s.held[v] {
	case x:
		return false
	case -x:
		return true
	}
	s.held[v] = x
	s.forced = append(s.forced, x)
	return false
}

// enter lays the clauses into rows: those with two literals that may hold, and none that does.
func (s *closing) enter(l [][]int) (clash bool) {
clauses:
	for _, c := range l {
		one := 0
		for i, x := range c {
			switch s.held[variable(x)] {
			case x:
				continue clauses
			case -x:
				continue
			}
			if one == 0 {
				one = x
			} else if x != one {
				s.wait(one, x, c[i+1:])
				continue clauses
			}
		}
		if one == 0 {
			return true
		}
		s.force(one)
	}
	return false
}

// wait lays a clause into the rows of two of its literals.
func (s *closing) wait(one, two int, rest []int) {
	w := &waiting{one, two, rest}
	s.rows[one] = append(s.rows[one], w)
	s.rows[two] = append(s.rows[two], w)
}

// drop gives each clause that waits with a literal that can't hold any more another one to wait with; where there is none, the one that is left is forced.
func (s *closing) drop(x int) (clash bool) {
clauses:
	for _, w := range s.rows[x] {
		if w.one == x {
			w.one = w.two
		}
		if s.held[variable(w.one)] == w.one {
			continue
		}
		for i, y := range w.rest {
			if y != w.one && s.held[variable(y)] != -y {
				w.two, w.rest = y, w.rest[i+1:]
				s.rows[y] = append(s.rows[y], w)
				continue clauses
			}
		}
		if s.force(w.one) {
			return true
		}
	}
	return false
}
