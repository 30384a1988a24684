package sweep_test

import (
	"math"
	"math/big"

	"celluloid/api"
	"celluloid/sweep"
)

// The chapter's words, written a second time and apart from the layer: what the tests hold the layer against. Where a segment meets a row is a fraction here, and each sample is looked at by itself.

// Numbers that nothing holds.
const (
	most  = math.MaxInt64
	least = math.MinInt64
)

func ratio(n int) *big.Rat { return new(big.Rat).SetInt64(int64(n)) }

func wordsEnd(n int) bool { return n >= -16777216 && n <= 16777216 && n/2*2 == n }

func wordsSample(n int) bool { return n >= -16777216 && n <= 16777216 && n/2*2 != n }

func wordsStyle(n int) bool { return 0 <= n && n <= 255 }

func wordsSide(n int) bool { return 1 <= n && n <= 256 }

func wordsRight(s sweep.Seg) bool {
	return wordsEnd(s.A.X) && wordsEnd(s.A.Y) && wordsEnd(s.B.X) && wordsEnd(s.B.Y) && wordsStyle(s.Left) && wordsStyle(s.Right)
}

func wordsAllRight(l []sweep.Seg) bool {
	for _, s := range l {
		if !wordsRight(s) {
			return false
		}
	}
	return true
}

// wordsCrosses: does the row lie between the ends?
func wordsCrosses(s sweep.Seg, y int) bool {
	return min(s.A.Y, s.B.Y) < y && y < max(s.A.Y, s.B.Y)
}

// wordsMeets is where a segment that crosses a row meets it: so much of its way on.
func wordsMeets(s sweep.Seg, y int) *big.Rat {
	way := new(big.Rat).Quo(ratio(y-s.A.Y), ratio(s.B.Y-s.A.Y))
	return way.Add(ratio(s.A.X), way.Mul(way, ratio(s.B.X-s.A.X)))
}

// wordsGives is how often a segment winds a sample that it is left of.
func wordsGives(s sweep.Seg, style int) int {
	times := 0
	if style == s.Left && s.B.Y > s.A.Y || style == s.Right && s.B.Y < s.A.Y {
		times = 1
	}
	if style == s.Right && s.B.Y > s.A.Y || style == s.Left && s.B.Y < s.A.Y {
		times--
	}
	return times
}

func wordsWound(l []sweep.Seg, style int, x int, y int) int {
	if !wordsSample(x) || !wordsSample(y) {
		return 0
	}
	times := 0
	for _, s := range l {
		if wordsRight(s) && wordsCrosses(s, y) && wordsMeets(s, y).Cmp(ratio(x)) <= 0 {
			times += wordsGives(s, style)
		}
	}
	return times
}

// stylesOf are the styles that segments tell, each of them once.
func stylesOf(l []sweep.Seg) []int {
	var there [256]bool
	for _, s := range l {
		there[s.Left], there[s.Right] = true, true
	}
	var styles []int
	for n, is := range there {
		if is {
			styles = append(styles, n)
		}
	}
	return styles
}

// wordsRow are the styles of the samples of a row.
func wordsRow(l []sweep.Seg, w int, y int) []int {
	var crossing []sweep.Seg
	var at []*big.Rat
	for _, s := range l {
		if wordsCrosses(s, y) {
			crossing, at = append(crossing, s), append(at, wordsMeets(s, y))
		}
	}
	styles := stylesOf(crossing)
	row := make([]int, 4*w)
	for i := range row {
		x := ratio(16*i + 7)
		for _, style := range styles {
			times := 0
			for n, s := range crossing {
				if at[n].Cmp(x) <= 0 {
					times += wordsGives(s, style)
				}
			}
			if times > 0 {
				row[i] = style
			}
		}
	}
	return row
}

func wordsOwners(l []sweep.Seg, w int, h int) ([]int, api.Errno) {
	if !wordsSide(w) || !wordsSide(h) || !wordsAllRight(l) {
		return nil, api.ErrArg
	}
	var owners []int
	for k := range 4 * h {
		owners = append(owners, wordsRow(l, w, 16*k+7)...)
	}
	return owners, api.OK
}

func wordsCover(owners []int, w int, h int, x int, y int, style int) int {
	if !wordsSide(w) || !wordsSide(h) || len(owners) != 16*w*h {
		return 0
	}
	count := 0
	for n, owner := range owners {
		column, row := n%(4*w), n/(4*w)
		// A pixel of a place below 0 has no samples; the division alone would lay those of 0 there.
		if owner == style && x >= 0 && y >= 0 && column/4 == x && row/4 == y {
			count++
		}
	}
	return count
}
