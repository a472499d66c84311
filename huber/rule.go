package huber

// rule is how residuals on one side of the knee are counted: a call asks one of
// the two, and which that is, its fields tell. The functions are handed a
// residual without its sign and a knee, both cut, so that no product wraps round.
type rule struct {
	cost func(size, knee int64) int64
	// slope is half of how steep the cost is.
	slope  func(size, knee int64) int64
	weight func(size, knee int64) (num, den int64)
	// lift is what the parabola that touches the cost is at 0, over weight's den.
	lift func(size, knee int64) int64
}

// ruleFor is the rule by which a residual is counted.
func ruleFor(size, knee int64) rule {
	if size <= knee {
		return square()
	}
	return line()
}

// square is the rule up to the knee.
func square() rule {
	return rule{
		cost:   func(size, _ int64) int64 { return size * size },
		slope:  func(size, _ int64) int64 { return size },
		weight: func(_, _ int64) (num, den int64) { return 1, 1 },
		lift:   func(_, _ int64) int64 { return 0 },
	}
}

// line is the rule beyond the knee, where a size is not 0.
func line() rule {
	return rule{
		cost:   func(size, knee int64) int64 { return 2*knee*size - knee*knee },
		slope:  func(_, knee int64) int64 { return knee },
		weight: func(size, knee int64) (num, den int64) { return knee, size },
		lift:   func(size, knee int64) int64 { return size * (knee*size - knee*knee) },
	}
}
