package adler

import (
	"hash/adler32"
	"math"
	"math/big"
	"strings"
	"testing"
)

const (
	most  = math.MaxInt64
	least = math.MinInt64
)

func expect(t *testing.T, name string, got int, want int, args ...any) {
	t.Helper()
	if got != want {
		t.Errorf("%s%v = %#x, want %#x", name, args, got, want)
	}
}

// scattered numbers of all sizes, always the same ones.
func scattered(count int) []int {
	l := make([]int, 0, count)
	x := uint64(0x9E3779B97F4A7C15)
	for i := range count {
		x ^= x << 13
		x ^= x >> 7
		x ^= x << 17
		l = append(l, int(x)>>(i*7%64))
	}
	return l
}

// motley bytes, always the same ones.
func motley(n int) string {
	b := make([]byte, n)
	x := uint32(2463534242)
	for i := range b {
		x ^= x << 13
		x ^= x >> 17
		x ^= x << 5
		b[i] = byte(x >> 9)
	}
	return string(b)
}

// texts are of all kinds, and long enough for both parts to go round many times.
func texts() []string {
	l := []string{"", "\x00", "a", "\xff", "abc", "Wikipedia", "\x00\x00\x00\x00", "\u00e9\u4e16\x80"}
	for _, n := range []int{2, 7, 22, 23, 255, 256, 257, 258, 300, 5551, 5552, 5553, 6000} {
		l = append(l, motley(n), strings.Repeat("\xff", n), strings.Repeat("\x00", n), strings.Repeat("\x01", n))
	}
	return append(l, motley(65520), motley(65521), motley(65522), strings.Repeat("\xff", 131043))
}

// sums are right ones, ones with parts from the modulus on, and ones below 0 or beyond 32 bits.
func sums() []int {
	l := []int{0, 1, 2, -1, -2, -1 << 16, -1 << 32, -1<<32 - 1, -1<<32 + 1, 1 << 31, 1<<32 - 1, 1 << 32, 1<<32 + 1, most, most - 1, least, least + 1}
	for _, part := range []int{0, 1, 2, 65519, 65520, 65521, 65522, 65534, 65535} {
		for _, other := range []int{0, 1, 255, 65520, 65521, 65522, 65535} {
			sum := part<<16 | other
			l = append(l, sum, sum+1<<32, sum+5<<40, sum-1<<32, sum-3<<50)
		}
	}
	return append(l, scattered(120)...)
}

// lengths are those of no bytes, of few, of those around the modulus, and very great ones.
func lengths() []int {
	return []int{0, 1, 2, 3, 300, 65520, 65521, 65522, 131042, 1<<31 - 1, 1 << 31, 1 << 32, 1 << 47, 1<<62 + 1, most - 1, most}
}

func rest(n *big.Int, by int) *big.Int {
	return new(big.Int).Mod(n, big.NewInt(int64(by)))
}

// split is a sum's parts by the chapter's words, in numbers of any size.
func split(sum int) (*big.Int, *big.Int) {
	n := rest(big.NewInt(int64(sum)), 1<<32)
	b, a := new(big.Int).DivMod(n, big.NewInt(1<<16), new(big.Int))
	return rest(a, 65521), rest(b, 65521)
}

func united(a *big.Int, b *big.Int) int {
	return int(rest(b, 65521).Int64()*(1<<16) + rest(a, 65521).Int64())
}

// added goes on by the chapter's words: the parts grow, and are reduced at the end alone.
func added(sum int, s string) int {
	a, b := split(sum)
	for _, c := range []byte(s) {
		a.Add(a, big.NewInt(int64(c)))
		b.Add(b, a)
	}
	return united(a, b)
}

// joined: with n bytes behind, A has one 1 too many, and B has n times what A was ahead of them, less 1.
func joined(a int, b int, n int) int {
	a1, b1 := split(a)
	a2, b2 := split(b)
	a1.Sub(a1, big.NewInt(1))
	further := new(big.Int).Mul(a1, big.NewInt(int64(n)))
	return united(a1.Add(a1, a2), further.Add(further, b1.Add(b1, b2)))
}

// P3.1: sums by hand, and the chapter's examples.
func TestSumByHand(t *testing.T) {
	for _, c := range []struct {
		s    string
		want int
	}{
		{"", 1},
		{"\x00", 0x00010001},
		{"\x00\x00\x00", 0x00030001},
		{"a", 0x00620062},
		{"b", 0x00630063},
		{"ab", 0x012600c4},
		{"ba", 0x012700c4},
		{"abc", 0x024d0127},
		{"Wikipedia", 0x11e60398},
		{"\xff", 0x01000100},
		{"\xff\x80", 0x02800180},
	} {
		expect(t, "Sum", Sum(c.s), c.want, c.s)
	}
}

// P3.1: where A, and where B, is just below 65521, just that, and just above.
func TestPartsThatComeToTheModulus(t *testing.T) {
	// 1 and 256 times 255 are 65281: 239, 240 and 241 are up to 65520, 65521 and 65522.
	full := strings.Repeat("\xff", 256)
	expect(t, "A", Sum(full)&0xffff, 65281)
	expect(t, "A", Sum(full+"\xef")&0xffff, 65520)
	expect(t, "A", Sum(full+"\xf0")&0xffff, 0)
	expect(t, "A", Sum(full+"\xf1")&0xffff, 1)
	// A stays 1 at bytes of 0, so B is how many there are.
	expect(t, "Sum", Sum(strings.Repeat("\x00", 65520)), 65520<<16|1)
	expect(t, "Sum", Sum(strings.Repeat("\x00", 65521)), 1)
	expect(t, "Sum", Sum(strings.Repeat("\x00", 65522)), 1<<16|1)
	expect(t, "More", More(65520, "\x00"), 65520<<16|65520)
	expect(t, "More", More(65520, "\x01"), 0)
	expect(t, "More", More(65520, "\x02"), 1<<16|1)
	expect(t, "More", More(65520<<16|65520, "\x00"), 65519<<16|65520)
	expect(t, "More", More(65520<<16|65520, "\xff"), 253<<16|254)
	expect(t, "More", More(65520<<16, "\x01"), 1)
}

// P3.1: the sum of bytes of all kinds, against the chapter's words and the library's sum.
func TestSum(t *testing.T) {
	for _, s := range texts() {
		expect(t, "Sum", Sum(s), added(1, s), len(s))
		expect(t, "Sum", Sum(s), int(adler32.Checksum([]byte(s))), len(s))
	}
	for c := range 256 {
		s := string([]byte{byte(c)})
		expect(t, "Sum", Sum(s), (1+c)<<16|(1+c), c)
		expect(t, "Sum", Sum(s+s), (2+3*c)<<16|(1+2*c), c, c)
	}
}

// P3.1: sums by hand that no bytes have: their parts are taken modulo 65521, they themselves modulo 2^32.
func TestMoreOfSumsThatAreNone(t *testing.T) {
	for _, c := range []struct {
		sum  int
		s    string
		want int
	}{
		{0, "", 0},
		{0, "\x05", 5<<16 | 5},
		{65521, "", 0},
		{65535, "", 14},
		{65521 << 16, "", 0},
		{65535 << 16, "", 14 << 16},
		{65535<<16 | 65535, "", 14<<16 | 14},
		{65535<<16 | 65535, "\x01", 29<<16 | 15},
		{-1, "", 14<<16 | 14},
		{-2, "", 14<<16 | 13},
		{-1 << 16, "", 14 << 16},
		{-1 << 32, "", 0},
		{-1<<32 + 1, "", 1},
		{1 << 32, "", 0},
		{1<<32 + 1, "a", 0x00620062},
		{7<<32 + 3<<16 + 2, "", 3<<16 | 2},
		{most, "", 14<<16 | 14},
		{least, "", 0},
		{least + 1, "abc", 0x024d0127},
	} {
		expect(t, "More", More(c.sum, c.s), c.want, c.sum, c.s)
	}
}

// P3.1, P1: every sum, with bytes of many kinds behind, against the chapter's words.
func TestMore(t *testing.T) {
	for _, sum := range sums() {
		for _, s := range []string{"", "\x00", "\x01", "\xff", "abc", motley(40), strings.Repeat("\xff", 300)} {
			expect(t, "More", More(sum, s), added(sum, s), sum, s)
		}
	}
}

// P3.2: joins by hand: of nothing, of wrong sums, and with n that no bytes have.
func TestJoinByHand(t *testing.T) {
	const ab, ba = 0x012600c4, 0x012700c4
	for _, c := range []struct{ a, b, n, want int }{
		{1, 1, 0, 1},
		{ab, 1, 0, ab},
		{1, ab, 2, ab},
		{0x00620062, 0x00630063, 1, ab},
		{0x00630063, 0x00620062, 1, ba},
		// Bytes of 0 alone: B is how many there are, A stays.
		{ab, 3<<16 | 1, 3, (0x126+3*0xc4)<<16 | 0xc4},
		{1, 65520<<16 | 1, 65520, 65520<<16 | 1},
		{1, 1, 65521, 1},
		{65520<<16 | 1, 1<<16 | 1, 1, 1},
		// A of 0 ahead is one below the 1 from which the bytes behind were counted.
		{0, 1, 0, 0},
		{0, 0x00620062, 1, 0x00610061},
		{0, 0, 0, 65520},
		{0, 0, 1, 65520<<16 | 65520},
		{0, 0, 2, 65519<<16 | 65520},
		// Parts from 65521 on, and sums below 0 or beyond 32 bits.
		{65522, ab, 2, ab},
		{65521<<16 | 1, ab, 2, ab},
		{-1, -1, 1, (14+14+13)<<16 | 27},
		{1<<32 + 1, ab + 5<<32, 2, ab},
		{1 - 1<<32, ab - 1<<40, 2, ab},
		// n below 0 is 0; a very great one is gone round.
		{ab, ab, 0, 0x24c<<16 | 0x187},
		{ab, ab, -1, 0x24c<<16 | 0x187},
		{ab, ab, least, 0x24c<<16 | 0x187},
		{2, 1, 65521, 2},
		{2, 1, 65522, 1<<16 | 2},
		{2, 1, most, most%65521<<16 | 2},
	} {
		expect(t, "Join", Join(c.a, c.b, c.n), c.want, c.a, c.b, c.n)
	}
}

// P3.2, P1: every two sums, at every number of bytes, against numbers of any size.
func TestJoin(t *testing.T) {
	l := sums()
	for i, a := range l {
		for j := i % 7; j < len(l); j += 7 {
			for _, n := range lengths() {
				expect(t, "Join", Join(a, l[j], n), joined(a, l[j], n), a, l[j], n)
			}
			for _, n := range []int{-1, -2, -65521, -65522, least + 1, least} {
				expect(t, "Join", Join(a, l[j], n), joined(a, l[j], 0), a, l[j], n)
			}
		}
	}
}

// P3.3: More of Sum goes on, and Join does so without the bytes, wherever bytes are cut in two.
func TestCutInTwo(t *testing.T) {
	for _, s := range []string{motley(700), strings.Repeat("\xff", 700), strings.Repeat("\x00", 30)} {
		for i := range len(s) + 1 {
			expect(t, "More", More(Sum(s[:i]), s[i:]), Sum(s), i)
			expect(t, "Join", Join(Sum(s[:i]), Sum(s[i:]), len(s)-i), Sum(s), i)
		}
	}
}

// P3.3: bytes of every kind behind bytes of every other kind.
func TestBehindEachOther(t *testing.T) {
	l := texts()
	for i, s := range l {
		for _, behind := range []string{l[(i*5+3)%len(l)], l[(i*11+1)%len(l)], s} {
			want := Sum(s + behind)
			expect(t, "More", More(Sum(s), behind), want, len(s), len(behind))
			expect(t, "Join", Join(Sum(s), Sum(behind), len(behind)), want, len(s), len(behind))
		}
	}
}

// P3.3: what goes on from any sum may be joined on instead, and in whatever order three are joined.
func TestJoinOfMore(t *testing.T) {
	s, u := motley(90), strings.Repeat("\xfe", 400)
	for _, sum := range sums() {
		want := More(sum, s+u)
		expect(t, "More", More(More(sum, s), u), want, sum)
		expect(t, "Join", Join(sum, Sum(s+u), 490), want, sum)
		expect(t, "Join", Join(Join(sum, Sum(s), 90), Sum(u), 400), want, sum)
		expect(t, "Join", Join(sum, Join(Sum(s), Sum(u), 400), 490), want, sum)
	}
}

// R4: a second call answers the same, and calls between do not matter.
func TestSecondCalls(t *testing.T) {
	s := motley(500)
	sum, more, join := Sum(s), More(-7, s), Join(-7, 99, 12)
	More(most, s)
	Join(least, most, most)
	expect(t, "Sum", Sum(s), sum)
	expect(t, "More", More(-7, s), more)
	expect(t, "Join", Join(-7, 99, 12), join)
}
