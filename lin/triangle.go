package lin

import "gimbal/long"

// triangle takes the columns out of rows, one by one, till there are no rows.
// It tells the row that was taken for each column, from that column on, and the
// determinant of the rows, without what stands beside; if it is 0, no rows.
func triangle(rows [][]long.Int) (tops [][]long.Int, det long.Int) {
	last, turned := long.Of(1), false
	for len(rows) > 0 {
		p := firstWithHead(rows)
		if p == len(rows) {
			return nil, long.Int{}
		}
		// The row changes places with each of the p rows ahead of it.
		turned = turned != (p%2 == 1)
		top := rows[p]
		tops = append(tops, top)
		rows, last = condensed(rows, p, last), top[0]
	}
	if turned {
		return tops, last.Neg()
	}
	return tops, last
}

// firstWithHead is the place of the first row that does not begin with 0; how
// many rows there are, if each does.
func firstWithHead(rows [][]long.Int) int {
	for i, row := range rows {
		if row[0].Sign() != 0 {
			return i
		}
	}
	return len(rows)
}

// condensed is the other rows without their first column, which row p takes
// out of them; last is the number that headed the row taken before, or 1.
//
// All that stands there is a determinant of numbers of the first rows, last
// goes into it without a rest, and no number grows longer than such a one.
func condensed(rows [][]long.Int, p int, last long.Int) [][]long.Int {
	top := rows[p]
	return made(len(rows)-1, func(i int) []long.Int {
		row := rows[i]
		if i >= p {
			row = rows[i+1]
		}
		return made(len(row)-1, func(j int) long.Int {
			return over(top[0].Mul(row[j+1]).Sub(row[0].Mul(top[j+1])), last)
		})
	})
}

// over is x / y, where y is not 0 and goes into x without a rest.
func over(x, y long.Int) long.Int {
	q, _, _ := x.Quo(y)
	return q
}

// beside is a's rows, with b's numbers at their ends.
func beside(a Mat, b []long.Int) [][]long.Int {
	return made(len(a), func(i int) []long.Int {
		return made(len(a)+1, func(j int) long.Int {
			if j < len(a) {
				return a[i][j]
			}
			return b[i]
		})
	})
}

// backwards is the numbers that solve the rows of a triangle, times det: from
// the last one on, for each row has but one number more than those behind it.
func backwards(tops [][]long.Int, det long.Int) []long.Int {
	n := len(tops)
	num := make([]long.Int, n)
	for i := n - 1; i >= 0; i-- {
		top := tops[i]
		rest, known := top[1:n-i], top[n-i]
		num[i] = over(det.Mul(known).Sub(inner(rest, num[i+1:])), top[0])
	}
	return num
}

// aboveZero tells whether all leading minors are above 0: while no row changes
// places, they are what heads the rows that are taken.
func aboveZero(rows [][]long.Int) bool {
	last := long.Of(1)
	for len(rows) > 0 {
		head := rows[0][0]
		if head.Sign() <= 0 {
			return false
		}
		rows, last = condensed(rows, 0, last), head
	}
	return true
}
