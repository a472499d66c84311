package quad

import (
	"gimbal/lin"
	"gimbal/long"
)

// table is all numbers of a function in one: P's rows, each with Q's number for
// it behind, and below them Q, with C behind.
//
// The function at x is the table's quadratic form at x with -1 behind, so what
// is done with P, Q and C is done with each place of the table alike.
func (f Quad) table() [][]long.Int {
	rows := made(len(f.Q), func(i int) []long.Int { return longer(f.P[i], f.Q[i]) })
	return longer(rows, longer(f.Q, f.C))
}

// ofTable is the function that a table tells; it keeps the table's memory.
func ofTable(rows [][]long.Int) Quad {
	n := len(rows) - 1
	return Quad{
		P: made(n, func(i int) []long.Int { return rows[i][:n:n] }),
		Q: rows[n][:n:n],
		C: rows[n][n],
	}
}

// sum is the function whose values are those of all together.
func sum(f Quad, others ...Quad) Quad {
	total := f.table()
	for _, g := range others {
		for i, row := range g.table() {
			for j, x := range row {
				total[i][j] = total[i][j].Add(x)
			}
		}
	}
	return ofTable(total)
}

// condensed is the table, scale times, of what a function is where it is least
// over its first numbers. Rows are those of its table that the other numbers
// have, and C; first is P's part of the first numbers alone, which is definite,
// and scale its determinant.
func condensed(rows [][]long.Int, first lin.Mat, scale long.Int) [][]long.Int {
	k := len(first)
	// A table is its own turned one: what a row begins with is also the first
	// numbers' part of its column.
	solved := made(len(rows), func(i int) []long.Int {
		num, _, _ := first.Solve(rows[i][:k:k])
		return num
	})
	return made(len(rows), func(i int) []long.Int {
		return made(len(rows), func(j int) long.Int {
			return scale.Mul(rows[i][k+j]).Sub(inner(solved[i], rows[j]))
		})
	})
}

// longer is a list with more behind. It goes into memory of its own, for what
// lies behind the list in the old one may be somebody's.
func longer[T any](list []T, more ...T) []T {
	return append(list[:len(list):len(list)], more...)
}

// leading is the first k rows and columns.
func leading(p lin.Mat, k int) lin.Mat {
	return made(k, func(i int) []long.Int {
		return made(k, func(j int) long.Int { return p[i][j] })
	})
}

// isOwnTurned tells whether rows and columns are alike.
func isOwnTurned(p lin.Mat) bool {
	turned := p.Turned()
	for i, row := range p {
		for j, x := range row {
			if x.Cmp(turned[i][j]) != 0 {
				return false
			}
		}
	}
	return true
}

// made is the list of what at tells of each place.
func made[T any](n int, at func(i int) T) []T {
	list := make([]T, n)
	for i := range list {
		list[i] = at(i)
	}
	return list
}

// inner is the sum of x's numbers times y's, as many as x has.
func inner(x, y []long.Int) long.Int {
	var total long.Int
	for i, n := range x {
		total = total.Add(n.Mul(y[i]))
	}
	return total
}
