package syntax

import "horarium/api"

// place is where a list of arguments lies.
type place struct {
	first  *api.Expr
	length int
}

// Depth is 1, and one more than the deepest argument's. It goes down by levels: calls within calls have no room for a very deep expression.
func Depth(e api.Expr) int {
	// The level at which each list was met last: one that is shared is gone through once a level.
	met := map[place]int{}
	depth, level := 1, [][]api.Expr{{e}}
	for {
		var below [][]api.Expr
		for _, list := range level {
			for _, x := range list {
				if len(x.Args) == 0 {
					continue
				}
				at := place{first: &x.Args[0], length: len(x.Args)}
				if met[at] < depth {
					met[at] = depth
					below = append(below, x.Args)
				}
			}
		}
		// A way down through more lists than there are goes through one of them twice: the expression holds itself, and has no end.
		if len(below) == 0 || depth > len(met) {
			return depth
		}
		depth, level = depth+1, below
	}
}
