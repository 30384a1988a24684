package curve

import (
	"celluloid/api"
	"celluloid/fix"
)

func evenPart(n int) bool {
	return n >= -farthest && n <= farthest && n%2 == 0
}

// areEven: may all these be a curve's?
func areEven(a api.Point, b api.Point, c api.Point) bool {
	return Even(a) && Even(b) && Even(c)
}

// bendPart is how far a curve bends in one part.
func bendPart(a int, b int, c int) int {
	bend := a - 2*b + c
	return max(bend, -bend)
}

// partAt is one part of where piece i of n ends.
func partAt(a int, b int, c int, i int, n int) int {
	left := n - i
	// Neither n is 0, nor a part of an even point so great that this could be no number.
	half, _ := fix.Round(a*left*left+2*b*i*left+c*i*i, 2*n*n)
	return 2 * half
}
