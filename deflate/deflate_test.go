package deflate

import (
	"compress/flate"
	"compress/zlib"
	"hash/adler32"
	"io"
	"math"
	"slices"
	"strings"
	"testing"

	"celluloid/api"
	"celluloid/inflate"
)

const most = 1 << 18

func expectRun(t *testing.T, s string, at int, length int, distance int) {
	t.Helper()
	if n, d := Run(s, at); n != length || d != distance {
		t.Errorf("Run(%d bytes, %.40q, %d) = %d, %d, want %d, %d", len(s), s, at, n, d, length, distance)
	}
}

func expectRaw(t *testing.T, s string, want string) {
	t.Helper()
	got, e := Raw(s)
	if e != api.OK || got != want {
		t.Errorf("Raw(%d bytes, %.40q) = %d bytes, %.99q, %d, want %d bytes, %.99q", len(s), s, len(got), got, e, len(want), want)
	}
}

// expectRefused holds Raw and Close to ErrLimit, with nothing beside it.
func expectRefused(t *testing.T, s string) {
	t.Helper()
	if p, e := Raw(s); p != "" || e != api.ErrLimit {
		t.Errorf("Raw of %d bytes: %d bytes, %d", len(s), len(p), e)
	}
	if p, e := Close(s); p != "" || e != api.ErrLimit {
		t.Errorf("Close of %d bytes: %d bytes, %d", len(s), len(p), e)
	}
}

// texts are all texts of the letters, of up to so many bytes.
func texts(letters string, longest int) []string {
	l := []string{""}
	for from := 0; len(l[from]) < longest; from++ {
		for i := range len(letters) {
			l = append(l, l[from]+letters[i:i+1])
		}
	}
	return l
}

// P6.1: runs by hand, with the chapter's example.
func TestRunByHand(t *testing.T) {
	for _, c := range []struct {
		s                    string
		at, length, distance int
	}{
		{"abcabcabc", 3, 6, 3},
		{"abcabcabc", 6, 3, 3},
		{"abcabcabc", 4, 5, 3},
		{"abcabcabc", 7, 0, 0},
		{"abcabc", 0, 0, 0},
		{"abcabc", 1, 0, 0},
		{"abcabc", 3, 3, 3},
		{"abcab", 3, 0, 0},
		{"abcabd", 3, 0, 0},
		{"aaaa", 0, 0, 0},
		{"aaaa", 1, 3, 1},
		{"aaaa", 2, 0, 0},
		{"aaa", 1, 0, 0},
		{"ababab", 2, 4, 2},
		{"\x00\x00\x00\x00", 1, 3, 1},
		{"\x00\xff\x80\x00\xff\x80", 3, 3, 3},
	} {
		expectRun(t, c.s, c.at, c.length, c.distance)
	}
}

// P6.1, P1: no place below 0, at the length of the bytes, and beyond.
func TestRunOfNoPlace(t *testing.T) {
	for _, s := range []string{"", "a", "aaaa", "abcabcabc", strings.Repeat("z", 40000)} {
		for _, at := range []int{-1, -2, -3, -32768, math.MinInt64, math.MinInt64 + 1, len(s), len(s) + 1, len(s) + 258, 1 << 32, math.MaxInt64 - 258, math.MaxInt64} {
			expectRun(t, s, at, 0, 0)
		}
	}
}

// P6.1: all short texts of two and of three letters, at all places.
func TestRunOfAllShortTexts(t *testing.T) {
	for _, s := range append(texts("ab", 11), texts("abc", 8)...) {
		for at := -2; at <= len(s)+2; at++ {
			n, d := wordsRun(s, at)
			expectRun(t, s, at, n, d)
		}
	}
}

// P6.1: bytes of all sorts, at places all over them.
func TestRunOfSamples(t *testing.T) {
	x := source(4)
	for _, s := range samples() {
		for range 60 {
			at := x.below(len(s) + 1)
			n, d := wordsRun(s, at)
			expectRun(t, s, at, n, d)
		}
	}
}

// P6.1: a run has as many bytes as stand there again, from 3 to 258, up to another byte or to the end.
func TestRunLengths(t *testing.T) {
	s := unlike(0, 7) + "|"
	for n := range 300 {
		length, distance := min(n, 258), len(s)
		if n < 3 {
			length, distance = 0, 0
		}
		expectRun(t, s+s[:n], len(s), length, distance)
		expectRun(t, s+s[:n]+"#", len(s), length, distance)
		expectRun(t, s+s[:n]+"###", len(s), length, distance)
	}
}

// P6.1: of 258 bytes no more is a run, and none further away is longer.
func TestRunOfTheMost(t *testing.T) {
	s := unlike(0, 7)
	a := s[:258] + "|"
	b := s[:300] + "|"
	expectRun(t, b+a+b, len(b+a), 258, len(a))
	expectRun(t, a+b+b, len(a+b), 258, len(b))
	expectRun(t, s[:257]+"|"+b, 258, 257, 258)
	expectRun(t, b+s[:257]+"|"+b, len(b)+258, 258, len(b)+258)
}

// P6.1: distances from 1 to 32,768; one further away is none.
func TestRunDistances(t *testing.T) {
	s := unlike(0, 40)
	for _, p := range distanceSpans() {
		for _, distance := range []int{p.least, p.least + 1, p.least + 1<<p.bits - 1} {
			if distance < 4 {
				continue
			}
			ahead := s[:distance-1] + "|"
			expectRun(t, ahead+s[:4]+"#", distance, min(4, distance-1), distance)
			expectRun(t, "##"+ahead+s[:4]+"#", distance+2, min(4, distance-1), distance)
		}
	}
	for distance := 32760; distance < 32780; distance++ {
		at := s[:distance-1] + "|"
		if distance <= 32768 {
			expectRun(t, at+s[:258], distance, 258, distance)
		} else {
			expectRun(t, at+s[:258], distance, 0, 0)
		}
	}
}

// P6.1: where only one further away than 32,768 would be longer, that is no run, and a shorter one that is near is.
func TestRunTooFar(t *testing.T) {
	s := unlike(0, 40)
	for _, near := range []int{102, 1000, 32000} {
		for _, length := range []int{0, 1, 2, 3, 4, 100} {
			// What stands near is a beginning of what stands far; nothing else begins so.
			behind := s[:length] + "#" + s[2000:2000+near-length-2] + "|"
			just := s[:32768-near-1] + "|" + behind
			expectRun(t, just+s[:200], len(just), 200, 32768)
			beyond := s[:32769-near-1] + "|" + behind
			if length < 3 {
				expectRun(t, beyond+s[:200], len(beyond), 0, 0)
			} else {
				expectRun(t, beyond+s[:200], len(beyond), length, near)
			}
		}
	}
}

// P6.1: of several longest runs it is the nearest; a longer one further away is taken ahead of nearer ones.
func TestNearest(t *testing.T) {
	for _, c := range []struct {
		s                    string
		at, length, distance int
	}{
		{"abcXabcYabcZ", 8, 3, 4},
		{"abcXabcYabcX", 8, 4, 8},
		{"abcXabcXabcX", 8, 4, 4},
		{"abcdXabcYabcd", 9, 4, 9},
		{"abcYabcdXabcd", 9, 4, 5},
		{"abcd1abcd2abc3abcd4", 14, 4, 9},
		{"aaaaabaaaa", 6, 4, 5},
		{"aaaabaaaaac", 5, 4, 5},
	} {
		expectRun(t, c.s, c.at, c.length, c.distance)
	}
	block := unlike(0, 4) + "|"
	for blocks := 2; blocks < 300; blocks += 27 {
		s := strings.Repeat(block+"#", blocks)
		expectRun(t, s+block+"!", len(s), len(block), len(block)+1)
	}
}

// P6.1: a run may reach into itself, at any distance below its length.
func TestRunIntoItself(t *testing.T) {
	s := "|" + unlike(0, 7)
	for distance := 1; distance < 258; distance++ {
		for _, n := range []int{max(3, distance+1), max(3, 2*distance-1), 2*distance + 2, 257, 258, 259} {
			text := strings.Repeat(s[:distance], n/distance+2)[:distance+n]
			expectRun(t, text, distance, min(n, 258), distance)
			expectRun(t, text+"#", distance, min(n, 258), distance)
			expectRun(t, "##"+text, distance+2, min(n, 258), distance)
		}
	}
}

// P6.1: packed bytes by hand, with the chapter's example.
func TestRawByHand(t *testing.T) {
	expectRaw(t, "", "\x03\x00")
	expectRaw(t, "a", "\x4b\x04\x00")
	expectRaw(t, "abc", "\x4b\x4c\x4a\x06\x00")
	// 1 10, a, then the symbol 263 and the distance symbol 0, the end: 110 10010001 0000111 00000 0000000.
	expectRaw(t, "aaaaaaaaaa", "\x4b\x84\x03\x00")
	// 1 10, then 255 as nine bits of 1, and the end: 19 bits.
	expectRaw(t, "\xff", "\xfb\x0f\x00")
	expectRaw(t, "\x8f\x90", wordsBlock("10111111", "110010000"))
	expectRaw(t, "\x00\xff", wordsBlock("00110000", "111111111"))
}

// P6.1: again and again the run of the place, if there is one, and on behind it; else the byte.
func TestRawStepByStep(t *testing.T) {
	for _, c := range []struct {
		s     string
		items []string
	}{
		{"abab", []string{wordsText("abab")}},
		{"abcabcabc", []string{wordsText("abc"), wordsCopy(6, 3)}},
		{"abcabcabd", []string{wordsText("abc"), wordsCopy(5, 3), wordsText("d")}},
		// A longer run one byte later does not matter.
		{"abc1bcde2abcde", []string{wordsText("abc1bcde2"), wordsCopy(3, 9), wordsText("de")}},
		{"abc1bcdef2def3abcdef", []string{wordsText("abc1bcdef2"), wordsCopy(3, 4), wordsText("3"), wordsCopy(3, 14), wordsCopy(3, 7)}},
		// What stands within a run, or over its end, was there as well.
		{"abcdeabcdef1cde2ef1", []string{wordsText("abcde"), wordsCopy(5, 5), wordsText("f1"), wordsCopy(3, 5), wordsText("2"), wordsCopy(3, 7)}},
		{"aaaaaaaaab1aab", []string{wordsText("a"), wordsCopy(8, 1), wordsText("b1"), wordsCopy(3, 4)}},
		{strings.Repeat("z", 259), []string{wordsText("z"), wordsCopy(258, 1)}},
		{strings.Repeat("z", 261), []string{wordsText("z"), wordsCopy(258, 1), wordsText("zz")}},
		{strings.Repeat("z", 262), []string{wordsText("z"), wordsCopy(258, 1), wordsCopy(3, 1)}},
	} {
		expectRaw(t, c.s, wordsBlock(c.items...))
	}
}

// P6.1: bytes alone, in codes of 8 and of 9 bits, and bytes that are all unlike.
func TestRawOfBytes(t *testing.T) {
	var all []byte
	for c := range 256 {
		s := string([]byte{byte(c)})
		expectRaw(t, s, wordsBlock(wordsText(s)))
		all = append(all, byte(c))
	}
	expectRaw(t, string(all), wordsBlock(wordsText(string(all))))
	slices.Reverse(all)
	expectRaw(t, string(all), wordsBlock(wordsText(string(all))))
	s := unlike(131, 25)
	expectRaw(t, s, wordsBlock(wordsText(s)))
}

// P6.1: the bits of every length from 3 to 258, the beginnings and ends of all symbols among them.
func TestRawLengths(t *testing.T) {
	s := unlike(0, 7) + "|"
	for n := 3; n <= 258; n++ {
		expectRaw(t, s+s[:n]+"#", wordsBlock(wordsText(s), wordsCopy(n, len(s)), wordsText("#")))
		expectRaw(t, "z"+strings.Repeat("z", n), wordsBlock(wordsText("z"), wordsCopy(n, 1)))
	}
	// 258 has a symbol of its own, without bits behind it; 257 is the last that the one ahead may tell.
	z := wordsText("z")
	expectRaw(t, strings.Repeat("z", 259), wordsBlock(z, "11000101", "00000"))
	expectRaw(t, strings.Repeat("z", 258), wordsBlock(z, "11000100", "01111", "00000"))
	expectRaw(t, strings.Repeat("z", 228), wordsBlock(z, "11000100", "00000", "00000"))
	expectRaw(t, strings.Repeat("z", 116), wordsBlock(z, "11000000", "0000", "00000"))
	expectRaw(t, strings.Repeat("z", 115), wordsBlock(z, "0010111", "1111", "00000"))
}

// P6.1: the bits of distances at the beginning, in the middle and at the end of each symbol; 32,769 is too far.
func TestRawDistances(t *testing.T) {
	s := unlike(0, 40)
	expectRaw(t, "aaaa", wordsBlock(wordsText("a"), wordsCopy(3, 1)))
	expectRaw(t, "ababa", wordsBlock(wordsText("ab"), wordsCopy(3, 2)))
	expectRaw(t, "abcabc", wordsBlock(wordsText("abc"), wordsCopy(3, 3)))
	for _, p := range distanceSpans() {
		for _, distance := range []int{p.least, p.least + 1<<p.bits/2, p.least + 1<<p.bits - 1} {
			if distance < 4 {
				continue
			}
			ahead := s[:distance-1] + "|"
			expectRaw(t, ahead+s[:3]+"#", wordsBlock(wordsText(ahead), wordsCopy(3, distance), wordsText("#")))
		}
	}
	end := wordsText("zzz")
	ahead := "zzz" + s[:32765]
	expectRaw(t, ahead+"zzz", wordsBlock(wordsText(ahead), "0000001", "11101", "1111111111111"))
	ahead = "zzz" + s[:32766]
	expectRaw(t, ahead+"zzz", wordsBlock(wordsText(ahead), end))
	// Far away it would be longer, but too far.
	ahead = "zzzy" + s[:20000] + "zzzx" + s[20000:32761]
	expectRaw(t, ahead+"zzzy", wordsBlock(wordsText("zzzy"+s[:20000]), wordsCopy(3, 20004), wordsText("x"+s[20000:32761]), wordsCopy(3, 12765), wordsText("y")))
}

// P6.1: bytes of all sorts, by the chapter's words.
func TestRawOfSamples(t *testing.T) {
	for _, s := range samples() {
		expectRaw(t, s, wordsRaw(s))
	}
	for _, s := range append(texts("ab", 9), texts("\x00\xff\x90", 7)...) {
		expectRaw(t, s, wordsRaw(s))
	}
}

// P6.1: behind the end stand noughts, of any number below 8, and no byte more.
func TestNoughts(t *testing.T) {
	for n := range 8 {
		// 8 bits for each byte but the last ones, which have 9.
		s := "abc" + unlike(200, 2)[:n]
		bits := 3 + 8*3 + 9*n + 7
		p, e := Raw(s)
		if e != api.OK || len(p) != (bits+7)/8 {
			t.Fatalf("Raw(%q): %d bytes, %d", s, len(p), e)
		}
		if bits%8 != 0 && p[len(p)-1]>>(bits%8) != 0 {
			t.Errorf("Raw(%q): its last byte is %08b, of which %d bits are meant", s, p[len(p)-1], bits%8)
		}
	}
}

// P6.1, P6.2: 2^18 bytes are packed, one more is refused.
func TestMost(t *testing.T) {
	x := source(6)
	for _, s := range []string{strings.Repeat("m", most+1), unlike(192, 64) + "\x00", motley(&x, most+1, 9), motley(&x, most+1, 256)} {
		expectUnpacked(t, s[:most-1])
		expectUnpacked(t, s[:most])
		expectRefused(t, s)
		expectRefused(t, s+s)
		expectUnpacked(t, s[1:])
	}
	lead := strings.Repeat(wordsCopy(258, 1), 1016)
	expectRaw(t, strings.Repeat("m", most), wordsBlock(wordsText("m"), lead, wordsCopy(15, 1)))
	expectRaw(t, unlike(192, 64), wordsBlock(wordsText(unlike(192, 64))))
}

// P6.3: never more than 9 bits for each byte and 10 more, rounded up; bytes of 9 bits, all unlike, need just so many.
func TestBound(t *testing.T) {
	s := unlike(192, 64)
	for _, n := range []int{0, 1, 2, 3, 4, 5, 6, 7, 8, 9, 10, 100, 32768, 32770, 100000, most} {
		if p, e := Raw(s[:n]); e != api.OK || len(p) != (9*n+17)/8 {
			t.Errorf("Raw of %d bytes: %d, %d", n, len(p), e)
		}
	}
	// Runs of 3 bytes of 9 bits each, as far away as they may be: they need 25 bits, each of them 2 fewer.
	threes := []byte{}
	for i := range 10900 {
		threes = append(threes, byte(144+i%101), byte(144+i/101), 255)
	}
	for _, s := range append(samples(), string(threes)+string(threes), s[:32768]+s[:32768]) {
		if p, e := Raw(s); e != api.OK || len(p) > (9*len(s)+17)/8 {
			t.Errorf("Raw of %d bytes, %.40q: %d, %d", len(s), s, len(p), e)
		}
	}
}

// P6.2: Close is two bytes, Raw's, and the sum, the highest byte first.
func TestClose(t *testing.T) {
	for _, c := range []struct{ s, want string }{
		{"", "\x78\x9c\x03\x00\x00\x00\x00\x01"},
		{"a", "\x78\x9c\x4b\x04\x00\x00\x62\x00\x62"},
		{"abc", "\x78\x9c\x4b\x4c\x4a\x06\x00\x02\x4d\x01\x27"},
	} {
		if got, e := Close(c.s); e != api.OK || got != c.want {
			t.Errorf("Close(%q) = %q, %d, want %q", c.s, got, e, c.want)
		}
	}
	x := source(12)
	for _, s := range append(samples(), strings.Repeat("\xff", 5552), strings.Repeat("\xff", 70000), motley(&x, most, 256)) {
		raw, _ := Raw(s)
		sum := adler32.Checksum([]byte(s))
		want := string([]byte{120, 156}) + raw + string([]byte{byte(sum >> 24), byte(sum >> 16), byte(sum >> 8), byte(sum)})
		if got, e := Close(s); e != api.OK || got != want {
			t.Errorf("Close(%d bytes, %.40q) = %d bytes, %d", len(s), s, len(got), e)
		}
	}
}

// expectUnpacked holds what is packed to be s again, by layer 5 and by the library.
func expectUnpacked(t *testing.T, s string) {
	t.Helper()
	raw, e := Raw(s)
	if got, n, f := inflate.Raw(raw, most); e != api.OK || f != api.OK || got != s || n != len(raw) {
		t.Errorf("%d bytes, %.40q: packed (%d), unpacked %d bytes of %d of %d (%d)", len(s), s, e, len(got), n, len(raw), f)
	}
	if got, err := io.ReadAll(flate.NewReader(strings.NewReader(raw))); err != nil || string(got) != s {
		t.Errorf("%d bytes, %.40q: the library's raw ones: %v", len(s), s, err)
	}
	closed, e := Close(s)
	if got, f := inflate.Open(closed, most); e != api.OK || f != api.OK || got != s {
		t.Errorf("%d bytes, %.40q: closed (%d), opened %d bytes (%d)", len(s), s, e, len(got), f)
	}
	r, err := zlib.NewReader(strings.NewReader(closed))
	if err != nil {
		t.Fatalf("%d bytes, %.40q: %v", len(s), s, err)
	}
	if got, err := io.ReadAll(r); err != nil || string(got) != s {
		t.Errorf("%d bytes, %.40q: the library's closed ones: %v", len(s), s, err)
	}
}

// P6.3, P2: what is packed is unpacked to what it was.
func TestUnpacked(t *testing.T) {
	for _, s := range append(samples(), texts("\x00\x8f\xff", 7)...) {
		expectUnpacked(t, s)
	}
}

// R3, R4: what is answered hangs on what was given alone, not on calls ahead, be they refused.
func TestSameAgain(t *testing.T) {
	long := strings.Repeat("no", most)
	for _, s := range samples() {
		raw, _ := Raw(s)
		closed, _ := Close(s)
		n, d := Run(s, len(s)/2)
		expectRefused(t, long)
		again, _ := Raw(s)
		closedAgain, _ := Close(s)
		if again != raw || closedAgain != closed {
			t.Errorf("%d bytes, %.40q: packed otherwise", len(s), s)
		}
		expectRun(t, s, len(s)/2, n, d)
		// Run is of bytes of any number, and what stands behind the longest run turns nothing.
		if at := len(s) / 2; at+258 <= len(s) {
			expectRun(t, s+long, at, n, d)
		}
	}
}
