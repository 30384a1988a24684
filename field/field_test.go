package field

import (
	"slices"
	"strings"
	"testing"

	"celluloid/api"
	"celluloid/bits"
)

// kind is one of the four that the layer writes and takes, as lists of numbers.
type kind struct {
	name     string
	low      []int // the least that each number may be
	high     []int // the greatest
	nothing  []int // what Same and Plain say, and noughts of the others
	right    func(l []int) bool
	put      func(w bits.Writer, l []int) (bits.Writer, api.Errno)
	take     func(r bits.Reader) ([]int, bits.Reader, api.Errno)
	words    func(l []int) string
	wordsGet func(s *strip) []int
	orders   [][2]int // of which number may not be above which
}

// isRight by the words: within the bounds, and not turned about.
func (k kind) isRight(l []int) bool {
	for i, v := range l {
		if v < k.low[i] || v > k.high[i] {
			return false
		}
	}
	for _, o := range k.orders {
		if l[o[0]] > l[o[1]] {
			return false
		}
	}
	return true
}

func kinds() []kind {
	return []kind{
		{
			name: "Rect",
			low:  []int{-1048576, -1048576, -1048576, -1048576}, high: []int{1048576, 1048576, 1048576, 1048576},
			nothing: make([]int, 4), orders: [][2]int{{0, 1}, {2, 3}},
			right: func(l []int) bool { return RightRect(rectOf(l)) },
			put:   func(w bits.Writer, l []int) (bits.Writer, api.Errno) { return PutRect(w, rectOf(l)) },
			take: func(r bits.Reader) ([]int, bits.Reader, api.Errno) {
				v, next, e := TakeRect(r)
				return []int{v.Left, v.Right, v.Top, v.Bottom}, next, e
			},
			words: wordsRect, wordsGet: wordsTakeRect,
		},
		{
			name: "Matrix",
			low:  []int{-4194304, -4194304, -4194304, -4194304, -1048576, -1048576}, high: []int{4194304, 4194304, 4194304, 4194304, 1048576, 1048576},
			nothing: []int{65536, 0, 0, 65536, 0, 0},
			right:   func(l []int) bool { return RightMatrix(matrixOf(l)) },
			put:     func(w bits.Writer, l []int) (bits.Writer, api.Errno) { return PutMatrix(w, matrixOf(l)) },
			take: func(r bits.Reader) ([]int, bits.Reader, api.Errno) {
				v, next, e := TakeMatrix(r)
				return []int{v.A, v.B, v.C, v.D, v.X, v.Y}, next, e
			},
			words: wordsMatrix, wordsGet: wordsTakeMatrix,
		},
		{
			name: "Cx",
			low:  []int{-512, -512, -512, -512, -255, -255, -255, -255}, high: []int{512, 512, 512, 512, 255, 255, 255, 255},
			nothing: []int{256, 256, 256, 256, 0, 0, 0, 0},
			right:   func(l []int) bool { return RightCx(cxOf(l)) },
			put:     func(w bits.Writer, l []int) (bits.Writer, api.Errno) { return PutCx(w, cxOf(l)) },
			take: func(r bits.Reader) ([]int, bits.Reader, api.Errno) {
				v, next, e := TakeCx(r)
				return append(v.Mul[:], v.Add[:]...), next, e
			},
			words: wordsCx, wordsGet: wordsTakeCx,
		},
		{
			name: "RGBA",
			low:  []int{0, 0, 0, 0}, high: []int{255, 255, 255, 255}, nothing: make([]int, 4),
			right: func(l []int) bool { return RightRGBA(rgbaOf(l)) },
			put:   func(w bits.Writer, l []int) (bits.Writer, api.Errno) { return PutRGBA(w, rgbaOf(l)) },
			take: func(r bits.Reader) ([]int, bits.Reader, api.Errno) {
				v, next, e := TakeRGBA(r)
				return []int{v.R, v.G, v.B, v.A}, next, e
			},
			words: wordsRGBA, wordsGet: wordsTakeRGBA,
		},
	}
}

// dice are numbers that are always the same ones.
type dice uint64

func (d *dice) roll(count int) int {
	x := uint64(*d)
	x ^= x << 13
	x ^= x >> 7
	x ^= x << 17
	*d = dice(x)
	return int(x>>11) % count
}

// between is a number within bounds, of any size, often at one of them.
func (d *dice) between(low int, high int) int {
	switch d.roll(8) {
	case 0:
		return low
	case 1:
		return high
	case 2, 3, 4:
		return max(low, min(high, (d.roll(2)*2-1)*(1<<d.roll(24))+d.roll(3)-1))
	}
	return low + d.roll(high-low+1)
}

// some is one of the kind that is right, with numbers that say nothing among it.
func (k kind) some(d *dice) []int {
	l := slices.Clone(k.nothing)
	for i := range l {
		if d.roll(3) > 0 {
			l[i] = d.between(k.low[i], k.high[i])
		}
	}
	for _, o := range k.orders {
		if l[o[0]] > l[o[1]] {
			l[o[0]], l[o[1]] = l[o[1]], l[o[0]]
		}
	}
	return l
}

// edges are those of the kind with each number, or all of them, at a bound and beside it.
func (k kind) edges() [][]int {
	var all [][]int
	for i := range k.low {
		for _, v := range []int{k.low[i], k.low[i] + 1, k.low[i] - 1, k.high[i], k.high[i] - 1, k.high[i] + 1, -1, 0, 1, least, least + 1, most, most - 1} {
			l := slices.Clone(k.nothing)
			l[i] = v
			all = append(all, l)
			l = slices.Clone(k.high)
			l[i] = v
			all = append(all, l)
			l = slices.Clone(k.low)
			l[i] = v
			all = append(all, l)
		}
	}
	return append(all, k.low, k.high, k.nothing)
}

// expectTaken holds Take at r to numbers and the reader's place behind them.
func (k kind) expectTaken(t *testing.T, r bits.Reader, want []int, at int) {
	t.Helper()
	got, next, e := k.take(r)
	if e != api.OK || !slices.Equal(got, want) || next != (bits.Reader{S: r.S, At: at}) {
		t.Errorf("Take%s(%x, %d) = %d, %x, %d, error %d, want %d, at %d", k.name, r.S, r.At, got, next.S, next.At, e, want, at)
	}
}

// expectNot holds Take at r to an error, with nothing beside it.
func (k kind) expectNot(t *testing.T, r bits.Reader, want api.Errno) {
	t.Helper()
	got, next, e := k.take(r)
	if e != want || slices.ContainsFunc(got, func(v int) bool { return v != 0 }) || next != (bits.Reader{}) {
		t.Errorf("Take%s(%x, %d) = %d, %#v, error %d, want error %d alone", k.name, r.S, r.At, got, next, e, want)
	}
}

func (k kind) expectPut(t *testing.T, w bits.Writer, l []int, want string) {
	t.Helper()
	got, e := k.put(w, l)
	if e != api.OK || got != (bits.Writer{S: want}) {
		t.Errorf("Put%s(%#v, %d) = %x, %d, error %d, want %x", k.name, w, l, got.S, got.Free, e, want)
	}
}

// writers are empty, at the end of a byte, in its midst, and not right.
func writers() []bits.Writer {
	l := []bits.Writer{
		{}, {S: "a"}, {S: "ab"}, {S: "\x00\x00"}, {S: "\xff"},
		{S: "", Free: 1}, {S: "", Free: -1}, {S: "", Free: 7}, {S: "", Free: 8},
		{S: "\xff", Free: 1}, {S: "\xff", Free: 7}, {S: "a\x81", Free: 3},
		{S: "a", Free: -1}, {S: "\x00", Free: 8}, {S: "\x00", Free: 9}, {S: "ab", Free: least}, {S: "ab", Free: most},
	}
	for free := range 8 {
		l = append(l, bits.Writer{S: "\x80", Free: free}, bits.Writer{S: "x\x00", Free: free})
	}
	return l
}

// notRight are readers whose At is beyond their bits.
func notRight() []bits.Reader {
	l := []bits.Reader{{S: "", At: 1}, {S: "", At: 8}, {S: "a", At: 9}, {S: "abcd", At: 33}, {S: "abcd", At: 40}}
	for _, s := range []string{"", "\x00", strings.Repeat("\x00", 40), strings.Repeat("\xff", 40)} {
		for _, at := range []int{-1, -2, -7, -8, -9, least, least + 1, most, most - 7, 1 << 32, -1 << 32, 8*len(s) + 1, 8*len(s) + 8} {
			l = append(l, bits.Reader{S: s, At: at})
		}
	}
	return l
}

// P7.1: what is right, at each number's bounds and beyond them, each number for itself.
func TestRightAtTheBounds(t *testing.T) {
	for _, k := range kinds() {
		for _, l := range k.edges() {
			if got := k.right(l); got != k.isRight(l) {
				t.Errorf("Right%s(%d) = %v", k.name, l, got)
			}
		}
		for i := range k.low {
			for _, beyond := range []int{k.low[i] - 1, k.high[i] + 1} {
				l := slices.Clone(k.nothing)
				l[i] = beyond
				if k.right(l) {
					t.Errorf("Right%s(%d)", k.name, l)
				}
			}
		}
		if !k.right(k.low) || !k.right(k.high) || !k.right(k.nothing) {
			t.Errorf("Right%s of a bound, or of nothing, is false", k.name)
		}
	}
}

// P7.1: rectangles may be of no size, but not turned about.
func TestRightRectTurnedAbout(t *testing.T) {
	for _, c := range []struct {
		r    api.Rect
		want bool
	}{
		{api.Rect{}, true},
		{api.Rect{Left: 1, Right: 1}, true},
		{api.Rect{Top: 1, Bottom: 1}, true},
		{api.Rect{Left: -1, Right: -1, Top: -5, Bottom: -5}, true},
		{api.Rect{Left: 3, Right: 4, Top: 1, Bottom: 2}, true},
		{api.Rect{Left: 2, Right: 1}, false},
		{api.Rect{Top: 2, Bottom: 1}, false},
		{api.Rect{Left: 1}, false},
		{api.Rect{Top: 1}, false},
		{api.Rect{Right: -1}, false},
		{api.Rect{Bottom: -1}, false},
		{api.Rect{Left: 1, Top: 1}, false},
		{api.Rect{Left: -1 << 20, Right: 1 << 20, Top: -1 << 20, Bottom: 1 << 20}, true},
		{api.Rect{Left: 1 << 20, Right: 1 << 20, Top: 1 << 20, Bottom: 1 << 20}, true},
		{api.Rect{Left: 1<<20 + 1, Right: 1<<20 + 1}, false},
		{api.Rect{Top: -1<<20 - 1, Bottom: -1<<20 - 1}, false},
	} {
		if got := RightRect(c.r); got != c.want {
			t.Errorf("RightRect(%+v) = %v", c.r, got)
		}
	}
}

// P7.1: Same and Plain, and that they are right.
func TestSameAndPlain(t *testing.T) {
	if got := Same(); got != (api.Matrix{A: 65536, D: 65536}) || !RightMatrix(got) {
		t.Errorf("Same() = %+v", got)
	}
	if got := Plain(); got != (api.Cx{Mul: [4]int{256, 256, 256, 256}}) || !RightCx(got) {
		t.Errorf("Plain() = %+v", got)
	}
}

// handRow is one that was worked out by hand, and its bits.
type handRow struct {
	l []int
	d string
}

func byHand() map[string][]handRow {
	return map[string][]handRow{
		"Rect": {
			{[]int{0, 0, 0, 0}, "00000"},
			{[]int{0, 1, 0, 1}, "00010 00 01 00 01"},
			{[]int{-1, 0, -1, 0}, "00001 1 0 1 0"},
			{[]int{-1, -1, -1, -1}, "00001 1 1 1 1"},
			{[]int{-2, 1, 0, 0}, "00010 10 01 00 00"},
			{[]int{0, 2, -3, 3}, "00011 000 010 101 011"},
			{[]int{0, 0, 0, 127}, "01000 00000000 00000000 00000000 01111111"},
			{[]int{-128, 0, 0, 0}, "01000 10000000 00000000 00000000 00000000"},
			{[]int{0, 128, 0, 0}, "01001 000000000 010000000 000000000 000000000"},
			{[]int{-1048576, 0, 0, 1}, "10101 100000000000000000000 000000000000000000000 000000000000000000000 000000000000000000001"},
			{[]int{0, 1048576, 0, 0}, "10110 0000000000000000000000 0100000000000000000000 0000000000000000000000 0000000000000000000000"},
		},
		"Matrix": {
			{[]int{65536, 0, 0, 65536, 0, 0}, "0 0 00000"},
			{[]int{0, 0, 0, 0, 0, 0}, "1 00000 0 00000"},
			{[]int{65536, 0, 0, 65536, 1, -1}, "0 0 00010 01 11"},
			{[]int{65536, 1, -1, 65536, 0, 0}, "0 1 00010 01 11 00000"},
			{[]int{65536, 0, 2, 65536, 0, 0}, "0 1 00011 000 010 00000"},
			{[]int{1, 0, 0, -1, 0, 0}, "1 00010 01 11 0 00000"},
			{[]int{-1, -1, 0, -1, 0, -1}, "1 00001 1 1 1 00001 1 0 00001 0 1"},
			{[]int{65536, 0, 0, 1, 0, 0}, "1 10010 010000000000000000 000000000000000001 0 00000"},
			{[]int{1, 0, 0, 65536, 0, 0}, "1 10010 000000000000000001 010000000000000000 0 00000"},
		},
		"Cx": {
			{[]int{256, 256, 256, 256, 0, 0, 0, 0}, "0 0 0000"},
			{[]int{0, 0, 0, 0, 0, 0, 0, 0}, "0 1 0000"},
			{[]int{256, 256, 256, 256, 1, 0, 0, -1}, "1 0 0010 01 00 00 11"},
			{[]int{0, 0, 0, -1, 0, 0, 0, 0}, "0 1 0001 0 0 0 1"},
			{[]int{-1, 0, 0, 0, 0, -1, 0, -1}, "1 1 0001 1 0 0 0 0 1 0 1"},
			{[]int{1, 0, 0, 0, 1, 0, 0, 0}, "1 1 0010 01 00 00 00 01 00 00 00"},
			{[]int{512, 0, 0, -512, 0, 0, 0, 0}, "0 1 1011 01000000000 00000000000 00000000000 11000000000"},
			{[]int{256, 256, 256, 256, 0, 0, -255, 255}, "1 0 1001 000000000 000000000 100000001 011111111"},
			{[]int{256, 256, 256, 0, 0, 0, 0, 0}, "0 1 1010 0100000000 0100000000 0100000000 0000000000"},
		},
		"RGBA": {
			{[]int{0, 0, 0, 0}, "00000000 00000000 00000000 00000000"},
			{[]int{1, 2, 3, 4}, "00000001 00000010 00000011 00000100"},
			{[]int{255, 254, 128, 127}, "11111111 11111110 10000000 01111111"},
			{[]int{255, 255, 255, 255}, "11111111 11111111 11111111 11111111"},
		},
	}
}

// P7.1, P7.2: by hand, both ways.
func TestByHand(t *testing.T) {
	for _, k := range kinds() {
		for _, c := range byHand()[k.name] {
			s := inBytes(strings.ReplaceAll(c.d, " ", ""), "0")
			k.expectPut(t, bits.Writer{}, c.l, s)
			k.expectTaken(t, bits.Reader{S: s}, c.l, 8*len(s))
		}
	}
}

// P7.1, P7.2: the chapter's examples, and that of a change.
func TestExamples(t *testing.T) {
	k := kinds()
	k[0].expectPut(t, bits.Writer{}, []int{0, 1, 0, 1}, "\x10\x88")
	k[0].expectTaken(t, bits.Reader{S: "\x10\x88"}, []int{0, 1, 0, 1}, 16)
	if w, e := PutMatrix(bits.Writer{}, Same()); e != api.OK || w != (bits.Writer{S: "\x00"}) {
		t.Errorf("PutMatrix of Same: %#v, %d", w, e)
	}
	if m, r, e := TakeMatrix(bits.Reader{S: "\x00"}); m != Same() || r != (bits.Reader{S: "\x00", At: 8}) || e != api.OK {
		t.Errorf("TakeMatrix of a byte 0: %+v, %#v, %d", m, r, e)
	}
	if w, e := PutCx(bits.Writer{}, Plain()); e != api.OK || w != (bits.Writer{S: "\x00"}) {
		t.Errorf("PutCx of Plain: %#v, %d", w, e)
	}
	if c, r, e := TakeCx(bits.Reader{S: "\x00"}); c != Plain() || r != (bits.Reader{S: "\x00", At: 8}) || e != api.OK {
		t.Errorf("TakeCx of a byte 0: %+v, %#v, %d", c, r, e)
	}
}

// P7.1, P7.3: what is right is written as the chapter's words say, whatever the writer, and taken back.
func TestPutAsTheWordsSay(t *testing.T) {
	d := dice(0x9E3779B97F4A7C15)
	for _, k := range kinds() {
		lists := k.edges()
		for range 3000 {
			lists = append(lists, k.some(&d))
		}
		all := writers()
		for i, l := range lists {
			if !k.isRight(l) {
				continue
			}
			s := k.words(l)
			k.expectPut(t, bits.Writer{}, l, s)
			w := all[i%len(all)]
			k.expectPut(t, w, l, w.S+s)
			k.expectTaken(t, bits.Reader{S: w.S + s + "behind", At: 8 * len(w.S)}, l, 8*len(w.S+s))
		}
	}
}

// P7.1: every writer gets the whole of it from a whole byte on; the writer that was handed in stays.
func TestPutBehindEveryWriter(t *testing.T) {
	d := dice(77)
	for _, k := range kinds() {
		for _, w := range writers() {
			for range 20 {
				l := k.some(&d)
				k.expectPut(t, w, l, w.S+k.words(l))
			}
		}
	}
}

// P7.1, R2: what is not right is ErrArg, with an empty writer, whatever the writer.
func TestPutOfWhatIsNotRight(t *testing.T) {
	for _, k := range kinds() {
		for _, l := range k.edges() {
			if k.isRight(l) {
				continue
			}
			for _, w := range writers() {
				if got, e := k.put(w, l); e != api.ErrArg || got != (bits.Writer{}) {
					t.Errorf("Put%s(%#v, %d) = %#v, %d", k.name, w, l, got, e)
				}
			}
		}
	}
	for _, r := range []api.Rect{{Left: 1}, {Top: 1}, {Right: -1}, {Bottom: -1}} {
		if got, e := PutRect(bits.Writer{S: "a"}, r); e != api.ErrArg || got != (bits.Writer{}) {
			t.Errorf("PutRect(%+v) = %#v, %d", r, got, e)
		}
	}
}

// P7.2, R2: readers that are not right are ErrArg, ahead of all else, whatever their bytes say.
func TestTakeFromReadersThatAreNotRight(t *testing.T) {
	for _, k := range kinds() {
		for _, r := range notRight() {
			k.expectNot(t, r, api.ErrArg)
		}
		// Bytes that are not right as well, and bytes that end.
		turned := inBytes("00010"+"01000000", "0")
		for _, s := range []string{turned, turned[:1], strings.Repeat("\xff", 3)} {
			for _, at := range []int{-1, 8*len(s) + 1} {
				k.expectNot(t, bits.Reader{S: s, At: at}, api.ErrArg)
			}
		}
	}
}

// P7.2: bits that end at each byte ahead of the end are ErrShort, from every place of the byte ahead.
func TestTakeOfBitsThatEnd(t *testing.T) {
	d := dice(5)
	for _, k := range kinds() {
		for range 300 {
			l := k.some(&d)
			s := k.words(l)
			for n := range len(s) {
				k.expectNot(t, bits.Reader{S: s[:n]}, api.ErrShort)
				for at := 1; at <= 8; at++ {
					k.expectNot(t, bits.Reader{S: "q" + s[:n], At: at}, api.ErrShort)
				}
			}
			k.expectTaken(t, bits.Reader{S: s}, l, 8*len(s))
		}
		k.expectNot(t, bits.Reader{}, api.ErrShort)
		// What is left of the byte is not taken: it ends at a whole one.
		for at := 1; at <= 8; at++ {
			k.expectNot(t, bits.Reader{S: "\x00", At: at}, api.ErrShort)
		}
	}
}

// P7.2: bits that end as little ahead of the end as there is: the last number's last bit, or its last two, stand in a byte that is not there. (A change has no odd number of bits.)
func TestTakeOfOneBitTooFew(t *testing.T) {
	for i, least := range []int{1, 1, 2} {
		k := kinds()[i]
		found := 0
		d := dice(11)
		for range 4000 {
			l := k.some(&d)
			whole := k.words(l)
			s := strip{digits: inDigits(whole)}
			k.wordsGet(&s)
			if s.torn%8 != least {
				continue
			}
			found++
			k.expectNot(t, bits.Reader{S: whole[:len(whole)-1]}, api.ErrShort)
			k.expectTaken(t, bits.Reader{S: whole}, l, 8*len(whole))
		}
		if found == 0 {
			t.Errorf("no %s reaches %d bits into a byte", k.name, least)
		}
	}
}

// wide is bytes of the kind with each width as given, all that may be told being so; of a colour there are no widths.
func (k kind) wide(n int, l []int) string {
	switch k.name {
	case "Rect":
		return inBytes(widthAndDigits(5, n, l...), "0")
	case "Matrix":
		return inBytes("1"+widthAndDigits(5, n, l[0], l[3])+"1"+widthAndDigits(5, n, l[1], l[2])+widthAndDigits(5, n, l[4], l[5]), "0")
	case "Cx":
		return inBytes("11"+widthAndDigits(4, n, l...), "0")
	}
	return wordsRGBA(l)
}

// widest is the greatest width that can be told.
func (k kind) widest() int {
	switch k.name {
	case "Cx":
		return 15
	case "RGBA":
		return 0
	}
	return 31
}

// P7.2, P7.3: widths may be greater than they must be, up to the greatest that can be told; and what need not be told may be. What is taken so is written shorter, and taken as the same.
func TestTakeOfGreaterWidths(t *testing.T) {
	d := dice(23)
	for _, k := range kinds() {
		lists := [][]int{k.nothing, k.low, k.high}
		for range 200 {
			lists = append(lists, k.some(&d))
		}
		for _, l := range lists {
			for n := min(wordsWidth(l...), k.widest()); n <= k.widest(); n++ {
				s := k.wide(n, l)
				k.expectTaken(t, bits.Reader{S: s}, l, 8*len(s))
				k.expectTaken(t, bits.Reader{S: "\x01" + s + "\x02", At: 3}, l, 8*len(s)+8)
				k.expectPut(t, bits.Writer{}, l, k.words(l))
				k.expectTaken(t, bits.Reader{S: k.words(l)}, l, 8*len(k.words(l)))
			}
		}
	}
}

// P7.2: each of a matrix's three widths is its own.
func TestTakeOfAMatrixWithThreeWidths(t *testing.T) {
	l := []int{-3, 2, 1, 3, 0, -4}
	for a := 3; a <= 31; a++ {
		for b := 3; b <= 31; b += 4 {
			for x := 3; x <= 31; x += 7 {
				s := inBytes("1"+widthAndDigits(5, a, -3, 3)+"1"+widthAndDigits(5, b, 2, 1)+widthAndDigits(5, x, 0, -4), "0")
				kinds()[1].expectTaken(t, bits.Reader{S: s}, l, 8*len(s))
			}
		}
	}
}

// P7.2: a width of 0 says noughts, where it is told, even if what is not told is not 0.
func TestTakeOfWidthsOfNought(t *testing.T) {
	k := kinds()
	k[0].expectTaken(t, bits.Reader{S: inBytes("00000", "0")}, []int{0, 0, 0, 0}, 8)
	k[1].expectTaken(t, bits.Reader{S: inBytes("1"+"00000"+"0"+"00000", "0")}, []int{0, 0, 0, 0, 0, 0}, 16)
	k[1].expectTaken(t, bits.Reader{S: inBytes("0"+"1"+"00000"+"00000", "0")}, []int{65536, 0, 0, 65536, 0, 0}, 16)
	k[1].expectTaken(t, bits.Reader{S: inBytes("1"+"00000"+"1"+"00000"+"00000", "0")}, []int{0, 0, 0, 0, 0, 0}, 24)
	k[2].expectTaken(t, bits.Reader{S: inBytes("01"+"0000", "0")}, []int{0, 0, 0, 0, 0, 0, 0, 0}, 8)
	k[2].expectTaken(t, bits.Reader{S: inBytes("10"+"0000", "0")}, []int{256, 256, 256, 256, 0, 0, 0, 0}, 8)
	k[2].expectTaken(t, bits.Reader{S: inBytes("11"+"0000", "0")}, []int{0, 0, 0, 0, 0, 0, 0, 0}, 8)
}

// P7.2: what is not told is as in Same and Plain; a change's width may be told with nothing behind it.
func TestTakeOfWhatIsNotTold(t *testing.T) {
	k := kinds()
	for n := range 32 {
		xy := widthAndDigits(5, n, 0, 0)
		s := inBytes("00"+xy, "0")
		k[1].expectTaken(t, bits.Reader{S: s}, []int{65536, 0, 0, 65536, 0, 0}, 8*len(s))
		s = inBytes("1"+widthAndDigits(5, 5, 9, -9)+"0"+xy, "0")
		k[1].expectTaken(t, bits.Reader{S: s}, []int{9, 0, 0, -9, 0, 0}, 8*len(s))
		s = inBytes("01"+widthAndDigits(5, 5, 9, -9)+xy, "0")
		k[1].expectTaken(t, bits.Reader{S: s}, []int{65536, 9, -9, 65536, 0, 0}, 8*len(s))
	}
	for n := range 16 {
		s := inBytes("00"+plainDigits(n, 4), "0")
		k[2].expectTaken(t, bits.Reader{S: s + "behind"}, []int{256, 256, 256, 256, 0, 0, 0, 0}, 8)
	}
	s := inBytes("01"+widthAndDigits(4, 5, 1, 2, 3, -4), "0")
	k[2].expectTaken(t, bits.Reader{S: s}, []int{1, 2, 3, -4, 0, 0, 0, 0}, 8*len(s))
	s = inBytes("10"+widthAndDigits(4, 5, 1, 2, 3, -4), "0")
	k[2].expectTaken(t, bits.Reader{S: s}, []int{256, 256, 256, 256, 1, 2, 3, -4}, 8*len(s))
}

// P7.2: each number one beyond its bounds is ErrField, at every width that holds it; bits that end go ahead of that, and a reader that is not right ahead of both.
func TestTakeOfWhatIsNotRight(t *testing.T) {
	for _, k := range kinds()[:3] {
		for i := range k.low {
			for _, from := range [][]int{k.nothing, k.low, k.high} {
				for _, beyond := range []int{k.low[i] - 1, k.high[i] + 1} {
					l := slices.Clone(from)
					l[i] = beyond
					for n := wordsWidth(l...); n <= k.widest(); n++ {
						k.expectWrong(t, k.wide(n, l))
					}
				}
			}
		}
		// The greatest and the least numbers that a field holds.
		for _, v := range []int{1<<(k.widest()-1) - 1, -1 << (k.widest() - 1)} {
			l := slices.Clone(k.nothing)
			for i := range l {
				l[i] = v
			}
			k.expectWrong(t, k.wide(k.widest(), l))
		}
	}
	for _, l := range [][]int{{1, 0, 0, 0}, {0, 0, 1, 0}, {0, -1, 0, 0}, {0, 0, 0, -1}, {1048576, 1048575, 0, 0}, {0, 0, -1048575, -1048576}} {
		kinds()[0].expectWrong(t, wordsRect(l))
	}
}

// expectWrong holds bytes to ErrField, all that is cut off them to ErrShort, and readers beyond them to ErrArg.
func (k kind) expectWrong(t *testing.T, s string) {
	t.Helper()
	k.expectNot(t, bits.Reader{S: s}, api.ErrField)
	k.expectNot(t, bits.Reader{S: "x" + s + "y", At: 5}, api.ErrField)
	for n := range len(s) {
		k.expectNot(t, bits.Reader{S: s[:n]}, api.ErrShort)
	}
	k.expectNot(t, bits.Reader{S: s, At: -1}, api.ErrArg)
	k.expectNot(t, bits.Reader{S: s, At: 8*len(s) + 1}, api.ErrArg)
}

// P7.2: readers in the midst of a byte go on at the next one; behind, the reader is aligned; the bits on either side that belong to nothing say nothing.
func TestTakeFromTheMidstOfAByte(t *testing.T) {
	d := dice(41)
	for _, k := range kinds() {
		for range 200 {
			l := k.some(&d)
			s := k.words(l)
			torn := strip{digits: inDigits(s)}
			k.wordsGet(&torn)
			ones := inBytes(torn.digits[:torn.torn], "1")
			for _, beside := range []string{"\x00", "\xff", "\x55"} {
				k.expectTaken(t, bits.Reader{S: s + beside}, l, 8*len(s))
				k.expectTaken(t, bits.Reader{S: ones + beside}, l, 8*len(s))
				for at := 1; at <= 8; at++ {
					k.expectTaken(t, bits.Reader{S: beside + s, At: at}, l, 8+8*len(s))
					k.expectTaken(t, bits.Reader{S: beside + ones + beside, At: at}, l, 8+8*len(s))
				}
			}
		}
	}
}

// P7.2, P7.3, P1: any bytes, from any place on, are taken as the chapter's words say, or refused as they say; what is taken, and written, is taken as the same again.
func TestTakeOfAnyBytes(t *testing.T) {
	d := dice(0xABCDEF)
	for _, k := range kinds() {
		seen := map[api.Errno]int{}
		for i := range 60000 {
			s := make([]byte, d.roll(26))
			for j := range s {
				s[j] = byte(d.roll(256))
			}
			// Small widths, so that much is right.
			if i%2 == 0 && len(s) > 0 {
				s[0] &= []byte{0x7f, 0x3f, 0x9f, 0xdf, 0xbf}[d.roll(5)]
			}
			at := d.roll(12) * (i % 3)
			r := bits.Reader{S: string(s), At: at}
			seen[k.expectAsTheWordsSay(t, r)]++
		}
		for _, e := range []api.Errno{api.OK, api.ErrArg, api.ErrShort, api.ErrField} {
			if seen[e] == 0 && !(k.name == "RGBA" && e == api.ErrField) {
				t.Errorf("Take%s: nothing answered %d", k.name, e)
			}
		}
	}
}

// P7.2, P7.3: all bytes there are, one and two of them.
func TestTakeOfAllShortBytes(t *testing.T) {
	for _, k := range kinds() {
		for a := range 256 {
			k.expectAsTheWordsSay(t, bits.Reader{S: string([]byte{byte(a)})})
			for b := range 256 {
				k.expectAsTheWordsSay(t, bits.Reader{S: string([]byte{byte(a), byte(b)})})
				k.expectAsTheWordsSay(t, bits.Reader{S: string([]byte{byte(a), byte(b), 0x18, 0x81, 0, 0, 0})})
			}
		}
	}
}

// expectAsTheWordsSay holds Take at r to what the words say of its digits, and tells which error that is.
func (k kind) expectAsTheWordsSay(t *testing.T, r bits.Reader) api.Errno {
	t.Helper()
	all := inDigits(r.S)
	if r.At < 0 || r.At > len(all) {
		k.expectNot(t, r, api.ErrArg)
		return api.ErrArg
	}
	from := (r.At + 7) / 8 * 8
	s := strip{digits: all[from:]}
	want := k.wordsGet(&s)
	if s.short {
		k.expectNot(t, r, api.ErrShort)
		return api.ErrShort
	}
	if !k.isRight(want) {
		k.expectNot(t, r, api.ErrField)
		return api.ErrField
	}
	k.expectTaken(t, r, want, from+(s.torn+7)/8*8)
	w, e := k.put(bits.Writer{S: "q"}, want)
	if e != api.OK || len(w.S)-1 > (s.torn+7)/8 {
		t.Errorf("Put%s(%d) = %x, %d: longer than what was taken", k.name, want, w.S, e)
	}
	k.expectTaken(t, bits.Reader{S: w.S, At: 8}, want, 8*len(w.S))
	return api.OK
}

// P7.3: many, of all kinds, one behind another, are taken back in their order, and nothing is left.
func TestWrittenAndTakenBack(t *testing.T) {
	d := dice(99)
	w := bits.Writer{S: "\xf0", Free: 4}
	type entry struct {
		k kind
		l []int
	}
	var all []entry
	for range 500 {
		k := kinds()[d.roll(4)]
		l := k.some(&d)
		next, e := k.put(w, l)
		if e != api.OK || !strings.HasPrefix(next.S, w.S) || next.Free != 0 {
			t.Fatalf("Put%s(%d): %d, %d", k.name, l, next.Free, e)
		}
		w = next
		all = append(all, entry{k, l})
	}
	r := bits.Reader{S: w.S, At: 4}
	for _, x := range all {
		got, next, e := x.k.take(r)
		if e != api.OK || !slices.Equal(got, x.l) || next.At <= r.At {
			t.Fatalf("Take%s = %d, %d, want %d", x.k.name, got, e, x.l)
		}
		r = next
	}
	if r.At != 8*len(w.S) {
		t.Errorf("%d bits are left", 8*len(w.S)-r.At)
	}
}

// R3, R4: a call that was refused, or went well, leaves nothing that the next one could tell.
func TestCallsLeaveNothing(t *testing.T) {
	for _, k := range kinds() {
		s := k.words(k.high)
		wrong := slices.Repeat([]int{least}, len(k.low))
		for _, r := range append(notRight(), bits.Reader{}, bits.Reader{S: strings.Repeat("\xff", 20)}) {
			k.take(r)
			k.put(bits.Writer{S: "z", Free: 9}, wrong)
			k.expectPut(t, bits.Writer{}, k.high, s)
			k.expectTaken(t, bits.Reader{S: s}, k.high, 8*len(s))
		}
	}
}
