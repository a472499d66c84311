package config

import (
	"iter"

	"gimbal/api"
)

// spot is where a number of a config stands, and what it may be: its field's name, and as the how manieth it stands
// there, from 0 on.
type spot struct {
	name        string
	place       int
	least, most int64
}

// numbers goes through a config's numbers in the order of its fields, with a pointer to each.
func numbers(c *api.Config) iter.Seq2[spot, *int64] {
	return func(yield func(spot, *int64) bool) {
		one := func(name string, n *int64, least, most int64) bool {
			return yield(spot{name, 0, least, most}, n)
		}
		four := func(name string, ns *[4]int64, least, most int64) bool {
			for i := range ns {
				if !yield(spot{name, i, least, most}, &ns[i]) {
					return false
				}
			}
			return true
		}
		// What comes behind a number at which the loop was left is not yielded any more.
		_ = one("Rate", &c.Rate, 1, 1000) &&
			one("Step", &c.Step, 1, 1000) &&
			one("Keys", &c.Keys, 2, 5) &&
			one("Gap", &c.Gap, 1, 1000) &&
			one("Turn", &c.Turn, 1, 4*api.One) &&
			one("Pull", &c.Pull, 1, 64*api.One) &&
			four("Knees", &c.Knees, 1, 32768) &&
			four("Weights", &c.Weights, 1, 100) &&
			one("Rounds", &c.Rounds, 1, 30) &&
			one("Raises", &c.Raises, 0, 12) &&
			one("Flat", &c.Flat, 0, 1_000_000_000)
	}
}
