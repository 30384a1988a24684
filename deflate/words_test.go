package deflate

import (
	"fmt"
	"strings"
)

// Here the chapter's words and RFC 1951's tables are written out once more: packed bytes are texts of digits, one a bit, in the order of the bits.

// wordsRun is the run of a place: a longer one begins with a shorter one, and the last of equal bytes is the nearest.
func wordsRun(s string, at int) (int, int) {
	length, distance := 0, 0
	if at < 0 || at >= len(s) {
		return 0, 0
	}
	first := max(0, at-32768)
	for n := 3; n <= 258 && at+n <= len(s); n++ {
		i := strings.LastIndex(s[first:at+n-1], s[at:at+n])
		if i < 0 {
			break
		}
		length, distance = n, at-first-i
	}
	return length, distance
}

// number is n bits, the lowest first.
func number(v int, n int) string {
	var b strings.Builder
	for i := range n {
		b.WriteByte('0' + byte(v>>i&1))
	}
	return b.String()
}

// wordsSymbol is the code of RFC 1951's section 3.2.6.
func wordsSymbol(n int) string {
	switch {
	case n < 144:
		return fmt.Sprintf("%08b", 48+n)
	case n < 256:
		return fmt.Sprintf("%09b", 400+n-144)
	case n < 280:
		return fmt.Sprintf("%07b", n-256)
	}
	return fmt.Sprintf("%08b", 192+n-280)
}

// span is the numbers from least on that a symbol stands for, by so many bits behind it.
type span struct {
	least, bits int
}

// lengthSpans are those of the symbols 257 to 285.
func lengthSpans() []span {
	return []span{
		{3, 0}, {4, 0}, {5, 0}, {6, 0}, {7, 0}, {8, 0}, {9, 0}, {10, 0},
		{11, 1}, {13, 1}, {15, 1}, {17, 1}, {19, 2}, {23, 2}, {27, 2}, {31, 2},
		{35, 3}, {43, 3}, {51, 3}, {59, 3}, {67, 4}, {83, 4}, {99, 4}, {115, 4},
		{131, 5}, {163, 5}, {195, 5}, {227, 5}, {258, 0},
	}
}

// distanceSpans are those of the symbols 0 to 29.
func distanceSpans() []span {
	return []span{
		{1, 0}, {2, 0}, {3, 0}, {4, 0}, {5, 1}, {7, 1}, {9, 2}, {13, 2},
		{17, 3}, {25, 3}, {33, 4}, {49, 4}, {65, 5}, {97, 5}, {129, 6}, {193, 6},
		{257, 7}, {385, 7}, {513, 8}, {769, 8}, {1025, 9}, {1537, 9}, {2049, 10}, {3073, 10},
		{4097, 11}, {6145, 11}, {8193, 12}, {12289, 12}, {16385, 13}, {24577, 13},
	}
}

// item is the last of the spans that begins at n or ahead of it, and the bits behind its symbol.
func item(spans []span, n int) (int, string) {
	i := len(spans) - 1
	for spans[i].least > n {
		i--
	}
	return i, number(n-spans[i].least, spans[i].bits)
}

// wordsCopy is a run in digits.
func wordsCopy(length int, distance int) string {
	l, further := item(lengthSpans(), length)
	d, rest := item(distanceSpans(), distance)
	return wordsSymbol(257+l) + further + fmt.Sprintf("%05b", d) + rest
}

// wordsText is bytes in digits, none of them by a run.
func wordsText(s string) string {
	var b strings.Builder
	for i := range len(s) {
		b.WriteString(wordsSymbol(int(s[i])))
	}
	return b.String()
}

// wordsBlock is the last block, of items in digits, as bytes.
func wordsBlock(items ...string) string {
	d := "1" + "10" + strings.Join(items, "") + "0000000"
	d += strings.Repeat("0", (8-len(d)%8)%8)
	s := make([]byte, len(d)/8)
	for i := range len(d) {
		s[i/8] |= (d[i] - '0') << (i % 8)
	}
	return string(s)
}

// wordsRaw is s, packed.
func wordsRaw(s string) string {
	var items []string
	for at := 0; at < len(s); {
		n, distance := wordsRun(s, at)
		if n > 0 {
			items = append(items, wordsCopy(n, distance))
			at += n
		} else {
			items = append(items, wordsText(s[at:at+1]))
			at++
		}
	}
	return wordsBlock(items...)
}

// unlike are kinds^3 bytes, from the byte first on, no three of which stand in them twice: Lyndon words of 1 and of 3 bytes, one after another.
func unlike(first int, kinds int) string {
	s := make([]byte, 0, kinds*kinds*kinds)
	for a := range kinds {
		s = append(s, byte(first+a))
		for b := a; b < kinds; b++ {
			for c := a; c < kinds; c++ {
				// A word is a Lyndon word, if it is below all others that it is turned to.
				if b > a && c > a || b == a && c > a {
					s = append(s, byte(first+a), byte(first+b), byte(first+c))
				}
			}
		}
	}
	return string(s)
}

// source makes numbers that are always the same ones.
type source uint64

func (x *source) below(n int) int {
	*x ^= *x << 13
	*x ^= *x >> 7
	*x ^= *x << 17
	return int(uint64(*x) >> 11 % uint64(n))
}

// motley is bytes of so many kinds.
func motley(x *source, count int, kinds int) string {
	s := make([]byte, count)
	for i := range s {
		s[i] = byte(x.below(kinds) * 255 / max(1, kinds-1))
	}
	return string(s)
}

// patched is bytes that say again and again what stands in them already.
func patched(x *source, count int, kinds int, longest int) string {
	s := motley(x, 1+x.below(20), kinds)
	for len(s) < count {
		from := x.below(len(s))
		s += s[from:min(len(s), from+1+x.below(longest))] + motley(x, x.below(3), kinds)
	}
	return s[:count]
}

// samples are bytes of all sorts.
func samples() []string {
	x := source(88172645463325252)
	all := make([]byte, 256)
	for i := range all {
		all[i] = byte(i)
	}
	l := []string{
		"", "a", "ab", "abc", "aaa", "aaaa", "abab", "ababa", "abcabc", "abcabcabc", string(all), string(all) + string(all),
		strings.Repeat("z", 258), strings.Repeat("z", 259), strings.Repeat("z", 260), strings.Repeat("z", 700),
		strings.Repeat("\x00", 5000), strings.Repeat("ab", 2000), unlike(144, 12), unlike(0, 20) + unlike(0, 20),
	}
	for _, kinds := range []int{1, 2, 3, 5, 17, 256} {
		for _, n := range []int{3, 8, 21, 100, 1000, 3000} {
			l = append(l, motley(&x, n, kinds), patched(&x, n, kinds, 9), patched(&x, n, kinds, 400))
		}
	}
	return append(l, motley(&x, 70000, 40), patched(&x, 70000, 256, 600))
}
