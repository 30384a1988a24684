package fix

import (
	"math"
	"math/big"
	"testing"
)

const (
	most  = math.MaxInt64
	least = math.MinInt64
)

// answer is what a call that may have no number tells.
type answer struct {
	n  int
	ok bool
}

func told(n int, ok bool) answer { return answer{n, ok} }

var none = answer{0, false}

// edges are the numbers where signs, halves and 64 bits turn.
func edges() []int {
	l := []int{0}
	for _, n := range []int{1, 2, 3, 4, 5, 7, 8, 10, 255, 65535, 65536, 1000003, 3037000499, 3037000500, 6074000999} {
		l = append(l, n, -n)
	}
	for _, k := range []int{30, 31, 32, 33, 61, 62} {
		for d := -2; d <= 2; d++ {
			l = append(l, 1<<k+d, -1<<k+d)
		}
	}
	for d := range 4 {
		l = append(l, most-d, least+d)
	}
	return append(l, most/2, most/3, least/2, least/3, least/3-1)
}

// scattered numbers of all sizes, always the same ones.
func scattered(count int) []int {
	l := make([]int, 0, count)
	x := uint64(0x9E3779B97F4A7C15)
	for i := range count {
		x ^= x << 13
		x ^= x >> 7
		x ^= x << 17
		l = append(l, int(x)>>(i*7%64))
	}
	return l
}

func whole(n int) *big.Int { return big.NewInt(int64(n)) }

func times(a int, b int) *big.Int { return new(big.Int).Mul(whole(a), whole(b)) }

// number is what a whole number of any size is as an answer.
func number(n *big.Int) answer {
	if !n.IsInt64() {
		return none
	}
	return answer{int(n.Int64()), true}
}

// floor divides by another way than the layer: Euclid's, whose rest is never below 0.
func floor(a *big.Int, b *big.Int) *big.Int {
	if b.Sign() < 0 {
		a, b = new(big.Int).Neg(a), new(big.Int).Neg(b)
	}
	return new(big.Int).Div(a, b)
}

func quotient(a *big.Int, b int) answer {
	if b == 0 {
		return none
	}
	return number(floor(a, whole(b)))
}

// rounded is the floor of (2 a + b) / (2 b).
func rounded(a int, b int) answer {
	if b == 0 {
		return none
	}
	above := new(big.Int).Add(times(2, a), whole(b))
	return number(floor(above, times(2, b)))
}

func expect(t *testing.T, name string, got answer, want answer, args ...int) {
	t.Helper()
	if got != want {
		t.Errorf("%s%v = %v, want %v", name, args, got, want)
	}
}

// P1.1: the sum, or 0 and false.
func TestAdd(t *testing.T) {
	expect(t, "Add", told(Add(2, -5)), answer{-3, true}, 2, -5)
	expect(t, "Add", told(Add(most, 0)), answer{most, true}, most, 0)
	expect(t, "Add", told(Add(most, 1)), none, most, 1)
	expect(t, "Add", told(Add(1, most)), none, 1, most)
	expect(t, "Add", told(Add(least, -1)), none, least, -1)
	expect(t, "Add", told(Add(-1, least)), none, -1, least)
	expect(t, "Add", told(Add(least, least)), none, least, least)
	expect(t, "Add", told(Add(most, most)), none, most, most)
	expect(t, "Add", told(Add(most, least)), answer{-1, true}, most, least)
}

// P1.1: the product, or 0 and false.
func TestMul(t *testing.T) {
	expect(t, "Mul", told(Mul(-6, 7)), answer{-42, true}, -6, 7)
	expect(t, "Mul", told(Mul(0, least)), answer{0, true}, 0, least)
	expect(t, "Mul", told(Mul(least, 1)), answer{least, true}, least, 1)
	expect(t, "Mul", told(Mul(least, -1)), none, least, -1)
	expect(t, "Mul", told(Mul(-1, least)), none, -1, least)
	expect(t, "Mul", told(Mul(1<<31, 1<<32)), none, 1<<31, 1<<32)
	expect(t, "Mul", told(Mul(-1<<31, 1<<32)), answer{least, true}, -1<<31, 1<<32)
	expect(t, "Mul", told(Mul(1<<32, 1<<32)), none, 1<<32, 1<<32)
	expect(t, "Mul", told(Mul(3037000500, 3037000500)), none, 3037000500, 3037000500)
}

// P1.1: the floor of a quotient, or 0 and false.
func TestFloor(t *testing.T) {
	expect(t, "Floor", told(Floor(7, 2)), answer{3, true}, 7, 2)
	expect(t, "Floor", told(Floor(-7, 2)), answer{-4, true}, -7, 2)
	expect(t, "Floor", told(Floor(7, -2)), answer{-4, true}, 7, -2)
	expect(t, "Floor", told(Floor(-7, -2)), answer{3, true}, -7, -2)
	expect(t, "Floor", told(Floor(-8, 2)), answer{-4, true}, -8, 2)
	expect(t, "Floor", told(Floor(0, -3)), answer{0, true}, 0, -3)
	expect(t, "Floor", told(Floor(0, 0)), none, 0, 0)
	expect(t, "Floor", told(Floor(least, 0)), none, least, 0)
	expect(t, "Floor", told(Floor(least, -1)), none, least, -1)
	expect(t, "Floor", told(Floor(least, 1)), answer{least, true}, least, 1)
	expect(t, "Floor", told(Floor(1, least)), answer{-1, true}, 1, least)
	expect(t, "Floor", told(Floor(most, least)), answer{-1, true}, most, least)
	expect(t, "Floor", told(Floor(least, most)), answer{-2, true}, least, most)
}

// P1.1: the floor of a quotient and one half, or 0 and false.
func TestRound(t *testing.T) {
	expect(t, "Round", told(Round(7, 2)), answer{4, true}, 7, 2)
	expect(t, "Round", told(Round(-7, 2)), answer{-3, true}, -7, 2)
	expect(t, "Round", told(Round(7, -2)), answer{-3, true}, 7, -2)
	expect(t, "Round", told(Round(-7, -2)), answer{4, true}, -7, -2)
	expect(t, "Round", told(Round(4, 3)), answer{1, true}, 4, 3)
	expect(t, "Round", told(Round(5, 3)), answer{2, true}, 5, 3)
	expect(t, "Round", told(Round(-4, 3)), answer{-1, true}, -4, 3)
	expect(t, "Round", told(Round(-5, 3)), answer{-2, true}, -5, 3)
	expect(t, "Round", told(Round(1, 0)), none, 1, 0)
	expect(t, "Round", told(Round(least, -1)), none, least, -1)
	expect(t, "Round", told(Round(most, 1)), answer{most, true}, most, 1)
	expect(t, "Round", told(Round(most, most-1)), answer{1, true}, most, most-1)
	expect(t, "Round", told(Round(most, least)), answer{-1, true}, most, least)
	expect(t, "Round", told(Round(1<<62, least)), answer{0, true}, 1<<62, least)
	expect(t, "Round", told(Round(1<<62, most)), answer{1, true}, 1<<62, most)
}

// P1.1: the floor of a product of any size, divided, or 0 and false.
func TestMulDiv(t *testing.T) {
	expect(t, "MulDiv", told(MulDiv(1<<62, 4, 8)), answer{1 << 61, true}, 1<<62, 4, 8)
	expect(t, "MulDiv", told(MulDiv(-5, 3, 4)), answer{-4, true}, -5, 3, 4)
	expect(t, "MulDiv", told(MulDiv(5, 3, -4)), answer{-4, true}, 5, 3, -4)
	expect(t, "MulDiv", told(MulDiv(-5, 3, -4)), answer{3, true}, -5, 3, -4)
	expect(t, "MulDiv", told(MulDiv(0, least, -4)), answer{0, true}, 0, least, -4)
	expect(t, "MulDiv", told(MulDiv(1, 1, 0)), none, 1, 1, 0)
	expect(t, "MulDiv", told(MulDiv(0, 0, 0)), none, 0, 0, 0)
	expect(t, "MulDiv", told(MulDiv(most, most, most)), answer{most, true}, most, most, most)
	expect(t, "MulDiv", told(MulDiv(least, least, least)), answer{least, true}, least, least, least)
	expect(t, "MulDiv", told(MulDiv(least, -1, 1)), none, least, -1, 1)
	expect(t, "MulDiv", told(MulDiv(least, 1, -1)), none, least, 1, -1)
	expect(t, "MulDiv", told(MulDiv(least, -1, -1)), answer{least, true}, least, -1, -1)
	expect(t, "MulDiv", told(MulDiv(most, 3, 2)), none, most, 3, 2)
	expect(t, "MulDiv", told(MulDiv(most, most, 1)), none, most, most, 1)
	expect(t, "MulDiv", told(MulDiv(least, least, 1)), none, least, least, 1)
	// The quotient is between the least number and the one below, which is none.
	const beside = (3<<63 + 1) / 5
	expect(t, "MulDiv", told(MulDiv(beside, -5, 3)), none, beside, -5, 3)
	// The quotient is between -2^64 and the number above.
	const under = 1<<63 - 1<<22
	expect(t, "MulDiv", told(MulDiv(-under, 1<<41+1, 1<<40)), none, -under, 1<<41+1, 1<<40)
}

// P1.1: every pair against whole numbers of any size.
func TestPairsOfNumbers(t *testing.T) {
	l := append(edges(), scattered(150)...)
	for _, a := range l {
		for _, b := range l {
			expect(t, "Add", told(Add(a, b)), number(new(big.Int).Add(whole(a), whole(b))), a, b)
			expect(t, "Mul", told(Mul(a, b)), number(times(a, b)), a, b)
			expect(t, "Floor", told(Floor(a, b)), quotient(whole(a), b), a, b)
			expect(t, "Round", told(Round(a, b)), rounded(a, b), a, b)
		}
	}
}

// P1.1: MulDiv of every three edges, and of scattered numbers, against whole numbers of any size.
func TestThreeNumbers(t *testing.T) {
	for _, l := range [][]int{edges(), scattered(90)} {
		for _, a := range l {
			for _, b := range l {
				p := times(a, b)
				for _, c := range l {
					expect(t, "MulDiv", told(MulDiv(a, b, c)), quotient(p, c), a, b, c)
				}
			}
		}
	}
}

// P1.1: small numbers, all of them, so that every remainder stands beside every sign.
func TestSmallNumbers(t *testing.T) {
	for a := -40; a <= 40; a++ {
		for b := -40; b <= 40; b++ {
			expect(t, "Floor", told(Floor(a, b)), quotient(whole(a), b), a, b)
			expect(t, "Round", told(Round(a, b)), rounded(a, b), a, b)
			expect(t, "MulDiv", told(MulDiv(a, 3, b)), quotient(times(a, 3), b), a, 3, b)
		}
	}
}

// P1.2: two products, held against each other as they are.
func TestCompare(t *testing.T) {
	for _, c := range []struct{ a, b, c, d, want int }{
		{2, 3, 7, 1, -1},
		{2, 3, 1, 6, 0},
		{2, 3, 5, 1, 1},
		{-2, 3, -3, 2, 0},
		{-2, 4, -3, 2, -1},
		{-2, 3, -4, 2, 1},
		{-1, 1, 0, least, -1},
		{0, -1, 0, 1, 0},
		{0, -1, -1, 1, 1},
		{1, 1, -1, 1, 1},
		{-1, 1, 1, 1, -1},
		{most, most, most, most - 1, 1},
		{least, least, most, most, 1},
		{least, most, most, least, 0},
		{least, most, least, least, -1},
		{least, least, least, most, 1},
		{1 << 32, 1 << 32, 0, 0, 1},
		{1 << 32, 1 << 32, 1 << 33, 1 << 31, 0},
		{-1 << 32, 1 << 32, 1, -1, -1},
	} {
		if got := Compare(c.a, c.b, c.c, c.d); got != c.want {
			t.Errorf("Compare(%d, %d, %d, %d) = %d, want %d", c.a, c.b, c.c, c.d, got, c.want)
		}
	}
}

// P1.2: every two edges against pairs of scattered numbers, their neighbours and the same pair turned about.
func TestCompareProducts(t *testing.T) {
	some := append(scattered(60), 0, 1, -1, most, least)
	for i, a := range edges() {
		for _, b := range edges() {
			c, d := some[i%len(some)], some[(i*7+b&15)%len(some)]
			for _, q := range [][2]int{{c, d}, {b, a}, {a, b ^ 1}, {a ^ 1, b}, {-a, -b}, {-a, b}} {
				want := times(a, b).Cmp(times(q[0], q[1]))
				if got := Compare(a, b, q[0], q[1]); got != want {
					t.Errorf("Compare(%d, %d, %d, %d) = %d, want %d", a, b, q[0], q[1], got, want)
				}
			}
		}
	}
}

// P1.2: the root, and 0 of numbers below 0.
func TestRoot(t *testing.T) {
	for _, c := range [][2]int{
		{0, 0}, {1, 1}, {2, 1}, {3, 1}, {4, 2}, {99, 9}, {100, 10},
		{-1, 0}, {-4, 0}, {least, 0}, {most, 3037000499},
	} {
		if got := Root(c[0]); got != c[1] {
			t.Errorf("Root(%d) = %d, want %d", c[0], got, c[1])
		}
	}
}

// P1.2: around squares, where a root turns, and of scattered numbers.
func TestRootOfSquares(t *testing.T) {
	l := append(edges(), scattered(500)...)
	for n := range 70000 {
		l = append(l, n)
	}
	for r := 3037000499; r > 3037000499-300; r-- {
		l = append(l, r*r-1, r*r, r*r+1)
	}
	for k := range 32 {
		r := 1 << k
		l = append(l, r*r-1, r*r, r*r+1, (r-1)*(r-1), r*r+2*r, r*r+2*r+1)
	}
	for _, n := range l {
		want := 0
		if n > 0 {
			want = int(new(big.Int).Sqrt(whole(n)).Int64())
		}
		if got := Root(n); got != want {
			t.Errorf("Root(%d) = %d, want %d", n, got, want)
		}
	}
}

// restIsRight: from 0 on and below the divisor, or above it and up to 0.
func restIsRight(left *big.Int, b int) bool {
	if b > 0 {
		return left.Sign() >= 0 && left.Cmp(whole(b)) < 0
	}
	return left.Sign() <= 0 && left.Cmp(whole(b)) > 0
}

// P1.3: a floor times its divisor, and what is left over, are the number.
func TestFloorAndRest(t *testing.T) {
	l := append(edges(), scattered(100)...)
	for _, a := range l {
		for _, b := range l {
			q, ok := Floor(a, b)
			if ok && !restIsRight(new(big.Int).Sub(whole(a), times(q, b)), b) {
				t.Errorf("Floor(%d, %d) = %d leaves a wrong rest", a, b, q)
			}
			q, ok = MulDiv(a, a, b)
			if ok && !restIsRight(new(big.Int).Sub(times(a, a), times(q, b)), b) {
				t.Errorf("MulDiv(%d, %d, %d) = %d leaves a wrong rest", a, a, b, q)
			}
		}
	}
}

// P1.3: the layer's calls alone tell it, too, and agree with one another.
func TestCallsAgree(t *testing.T) {
	l := append(edges(), scattered(100)...)
	for _, a := range l {
		for _, b := range l {
			floor := told(Floor(a, b))
			expect(t, "MulDiv", told(MulDiv(a, 1, b)), floor, a, 1, b)
			expect(t, "MulDiv", told(MulDiv(1, a, b)), floor, 1, a, b)
			expect(t, "MulDiv", told(MulDiv(a, b, 1)), told(Mul(a, b)), a, b, 1)
			if floor.ok && b > 0 && Compare(floor.n, b, a, 1) > 0 {
				t.Errorf("Floor(%d, %d) = %d is above", a, b, floor.n)
			}
			if floor.ok && b < 0 && Compare(floor.n, b, a, 1) < 0 {
				t.Errorf("Floor(%d, %d) = %d is above", a, b, floor.n)
			}
			if Compare(a, b, b, a) != 0 || Compare(a, b, a, a) != -Compare(a, a, a, b) {
				t.Errorf("Compare of %d and %d", a, b)
			}
		}
	}
}
