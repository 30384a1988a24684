package tag_test

import (
	"slices"
	"strings"
	"testing"

	"celluloid/api"
	"celluloid/tag"
)

// dice are numbers that are always the same ones.
type dice uint64

func (d *dice) roll(count int) int {
	x := uint64(*d)
	x ^= x << 13
	x ^= x >> 7
	x ^= x << 17
	*d = dice(x)
	return int(x>>11) % count
}

// bytes are count of them, of so many kinds.
func (d *dice) bytes(count int, kinds int) string {
	s := make([]byte, count)
	for i := range s {
		s[i] = byte(d.roll(kinds))
	}
	return string(s)
}

// size is how long a body may be, often at an edge.
func (d *dice) size() int {
	switch d.roll(4) {
	case 0:
		return sizes[d.roll(len(sizes)-1)]
	case 1:
		return d.roll(300)
	}
	return d.roll(5)
}

// code is one from 1 to 1,023, often an edge.
func (d *dice) code() int {
	switch d.roll(5) {
	case 0:
		return 1
	case 1:
		return 1023
	}
	return 1 + d.roll(1023)
}

// list is one of right tags, of which none is an end.
func (d *dice) list(count int) []tag.Raw {
	var l []tag.Raw
	for range count {
		l = append(l, tag.Raw{Code: d.code(), Body: d.bytes(d.size(), 256)})
	}
	return l
}

// sizes are how long bodies are, at each edge.
var sizes = []int{0, 1, 2, 61, 62, 63, 64, 65, 127, 128, 255, 256, 257, 319, 320, 512, 65535, 65536, 65537, 1 << 18}

// codes are those that a tag may have, at each edge.
var codes = []int{0, 1, 2, 3, 4, 63, 64, 255, 256, 511, 512, 1020, 1021, 1022, 1023}

// noCodes are those that none may have.
var noCodes = []int{least, least + 1, -1 << 58, -1 << 32, -65536, -1024, -1023, -64, -63, -2, -1, 1024, 1025, 1087, 2047, 2048, 65535, 65536, 1 << 26, 1<<26 + 1, 1 << 32, 1<<32 + 1, 1 << 58, 1<<58 + 1, 1 << 62, most - 1, most}

// body is one of n bytes, all of which the place tells.
func body(n int) string {
	s := make([]byte, n)
	for i := range s {
		s[i] = byte(i*7 + i/256 + 1)
	}
	return string(s)
}

// said is what stands in a remark of a test: not all of a long text.
func said(s string) string {
	if len(s) > 80 {
		return s[:40] + ".." + s[len(s)-40:]
	}
	return s
}

// expectPut holds a tag to its bytes, and these, whatever stands behind them, to being taken as it.
func expectPut(t *testing.T, x tag.Raw, want string) {
	t.Helper()
	if s, e := tag.Put(x); s != want || e != api.OK {
		t.Errorf("Put of %d, %q = %q, %d, want %q", x.Code, said(x.Body), said(s), e, said(want))
	}
	for _, behind := range []string{"", "\x00", "\x00\x00", "behind", want} {
		expectTaken(t, want+behind, x, behind)
	}
}

// expectNoPut holds Put to saying that a tag is none, with nothing beside it.
func expectNoPut(t *testing.T, x tag.Raw) {
	t.Helper()
	if s, e := tag.Put(x); s != "" || e != api.ErrArg {
		t.Errorf("Put of %d, %q = %q, %d, want ErrArg", x.Code, said(x.Body), said(s), e)
	}
}

// expectJoined holds a list to its bytes, and to staying as it was, and these, whatever stands behind them, to being split into it.
func expectJoined(t *testing.T, l []tag.Raw, want string) {
	t.Helper()
	was := slices.Clone(l)
	if s, e := tag.Join(l); s != want || e != api.OK {
		t.Errorf("Join of %d tags = %q, %d, want %q", len(l), said(s), e, said(want))
	}
	if !slices.Equal(l, was) {
		t.Errorf("Join has turned %d tags into others", len(l))
	}
	for _, behind := range []string{"", "\x00", "\x00\x00", "\x01\x00x", "behind", want} {
		expectSplit(t, want+behind, l, behind)
	}
}

// expectNoJoin holds Join to saying that a list is none, with nothing beside it.
func expectNoJoin(t *testing.T, l []tag.Raw) {
	t.Helper()
	was := slices.Clone(l)
	if s, e := tag.Join(l); s != "" || e != api.ErrArg {
		t.Errorf("Join of %d tags = %q, %d, want ErrArg", len(l), said(s), e)
	}
	if !slices.Equal(l, was) {
		t.Errorf("Join has turned %d tags into others", len(l))
	}
}

// expectTaken holds Take to a tag and the rest.
func expectTaken(t *testing.T, s string, want tag.Raw, rest string) {
	t.Helper()
	if x, r, e := tag.Take(s); x != want || r != rest || e != api.OK {
		t.Errorf("Take(%q) = %d, %q, %q, %d, want %d, %q, %q", said(s), x.Code, said(x.Body), said(r), e, want.Code, said(want.Body), said(rest))
	}
}

// expectNotTaken holds Take, and so Split, to an error, with nothing beside it.
func expectNotTaken(t *testing.T, s string, want api.Errno) {
	t.Helper()
	if x, r, e := tag.Take(s); x != (tag.Raw{}) || r != "" || e != want {
		t.Errorf("Take(%q) = %d, %q, %q, %d, want the error %d", said(s), x.Code, said(x.Body), said(r), e, want)
	}
	expectNotSplit(t, s, want)
}

// expectSplit holds Split to tags and the rest, in memory of their own.
func expectSplit(t *testing.T, s string, want []tag.Raw, rest string) {
	t.Helper()
	for range 2 {
		l, r, e := tag.Split(s)
		if !slices.Equal(l, want) || r != rest || e != api.OK {
			t.Errorf("Split(%q) = %d tags, %q, %d, want %d, %q", said(s), len(l), said(r), e, len(want), said(rest))
			return
		}
		// What is written into the one answer is not seen in the other one.
		for i := range l {
			l[i] = tag.Raw{Code: -1, Body: "none"}
		}
	}
}

// expectNotSplit holds Split to an error, with nothing beside it.
func expectNotSplit(t *testing.T, s string, want api.Errno) {
	t.Helper()
	if l, r, e := tag.Split(s); len(l) != 0 || r != "" || e != want {
		t.Errorf("Split(%q) = %d tags, %q, %d, want the error %d", said(s), len(l), said(r), e, want)
	}
}

// P12.1: the chapter's examples, and others by hand.
func TestPutByHand(t *testing.T) {
	expectJoined(t, nil, "\x00\x00")
	expectJoined(t, []tag.Raw{}, "\x00\x00")
	for _, c := range []struct {
		code int
		body string
		want string
	}{
		{0, "", "\x00\x00"},
		{0, "x", "\x01\x00x"},
		{0, strings.Repeat("x", 63), "\x3f\x00\x3f\x00\x00\x00" + strings.Repeat("x", 63)},
		{1, "", "\x40\x00"},
		{1, "\x00", "\x41\x00\x00"},
		{3, "", "\xc0\x00"},
		{4, "abc", "\x03\x01abc"},
		{9, "\x01\x02\x03", "\x43\x02\x01\x02\x03"},
		{26, strings.Repeat("y", 62), "\xbe\x06" + strings.Repeat("y", 62)},
		{26, strings.Repeat("y", 63), "\xbf\x06\x3f\x00\x00\x00" + strings.Repeat("y", 63)},
		{32, strings.Repeat("z", 255), "\x3f\x08\xff\x00\x00\x00" + strings.Repeat("z", 255)},
		{32, strings.Repeat("z", 256), "\x3f\x08\x00\x01\x00\x00" + strings.Repeat("z", 256)},
		{46, strings.Repeat("z", 65536), "\xbf\x0b\x00\x00\x01\x00" + strings.Repeat("z", 65536)},
		{1023, "", "\xc0\xff"},
		{1023, "\xff", "\xc1\xff\xff"},
		{1023, strings.Repeat("\x00", 64), "\xff\xff\x40\x00\x00\x00" + strings.Repeat("\x00", 64)},
	} {
		expectPut(t, tag.Raw{Code: c.code, Body: c.body}, c.want)
		if c.code > 0 {
			expectJoined(t, []tag.Raw{{Code: c.code, Body: c.body}}, c.want+"\x00\x00")
		}
	}
	expectJoined(t, []tag.Raw{{Code: 9, Body: "\x01\x02\x03"}, {Code: 1}, {Code: 1}}, "\x43\x02\x01\x02\x03\x40\x00\x40\x00\x00\x00")
}

// P12.1, P12.2: each Code, with bodies of each length up to an edge.
func TestEachCodeAndSize(t *testing.T) {
	for code := range 1024 {
		for _, size := range []int{0, 1, 62, 63, 64} {
			x := tag.Raw{Code: code, Body: body(size)}
			want, _ := wordsPut(x)
			expectPut(t, x, want)
		}
	}
	for _, code := range codes {
		for size := range 400 {
			x := tag.Raw{Code: code, Body: body(size)}
			want, _ := wordsPut(x)
			expectPut(t, x, want)
		}
		for _, size := range sizes {
			x := tag.Raw{Code: code, Body: body(size)}
			want, _ := wordsPut(x)
			expectPut(t, x, want)
		}
	}
}

// P12.1, P12.2: a body of more bytes than three tell.
func TestGreatBody(t *testing.T) {
	x := tag.Raw{Code: 2, Body: strings.Repeat("a", 1<<24+3)}
	s, e := tag.Put(x)
	if e != api.OK || len(s) != 6+len(x.Body) || s[:6] != "\xbf\x00\x03\x00\x00\x01" || s[6:] != x.Body {
		t.Fatalf("Put = %d bytes, %d", len(s), e)
	}
	expectTaken(t, s+"behind", x, "behind")
	expectNotTaken(t, s[:len(s)-1], api.ErrShort)
}

// P12.1: Codes that are none, with bodies of each length, and in a list at each place.
func TestCodesThatAreNone(t *testing.T) {
	for _, code := range noCodes {
		for _, size := range sizes[:12] {
			expectNoPut(t, tag.Raw{Code: code, Body: body(size)})
		}
		for at := range 4 {
			l := []tag.Raw{{Code: 1}, {Code: 2, Body: "b"}, {Code: 3, Body: "c"}}
			l = slices.Insert(l, at, tag.Raw{Code: code, Body: "x"})
			expectNoJoin(t, l)
			l[at].Body = ""
			expectNoJoin(t, l)
		}
	}
}

// P12.1: no tag of a list has the Code 0, with a body or without one, wherever it stands, the end too.
func TestJoinOfAnEnd(t *testing.T) {
	for _, b := range []string{"", "x", body(62), body(63)} {
		expectNoJoin(t, []tag.Raw{{Body: b}})
		for _, count := range []int{1, 2, 5, 255} {
			for _, at := range []int{0, count / 2, count} {
				l := slices.Repeat([]tag.Raw{{Code: 1}}, count)
				expectNoJoin(t, slices.Insert(l, at, tag.Raw{Body: b}))
			}
		}
	}
}

// P12.1: at most 256 tags; one more is ErrArg, whatever it is.
func TestJoinOfHowMany(t *testing.T) {
	for _, count := range []int{1, 2, 3, 127, 128, 254, 255, 256} {
		for _, x := range []tag.Raw{{Code: 1}, {Code: 1023, Body: "x"}, {Code: 1, Body: body(63)}} {
			l := slices.Repeat([]tag.Raw{x}, count)
			want, e := wordsJoin(l)
			if e != api.OK {
				t.Fatalf("the words say %d of %d tags", e, count)
			}
			expectJoined(t, l, want)
		}
	}
	for _, count := range []int{257, 258, 511, 512, 513, 1000, 65536, 65537} {
		expectNoJoin(t, slices.Repeat([]tag.Raw{{Code: 1}}, count))
	}
	for _, last := range []tag.Raw{{}, {Body: "x"}, {Code: 1023, Body: "x"}, {Code: -1}, {Code: 1024}} {
		expectNoJoin(t, append(slices.Repeat([]tag.Raw{{Code: 1}}, 256), last))
	}
	// What stands behind a list's end is none of its tags.
	l := slices.Repeat([]tag.Raw{{Code: 1}}, 300)
	l[2] = tag.Raw{}
	expectJoined(t, l[:2], "\x40\x00\x40\x00\x00\x00")
}

// P12.1, P12.3: any lists are joined as the words say, and split again, whatever stands behind.
func TestAnyLists(t *testing.T) {
	d := dice(1)
	for range 600 {
		count := d.roll(8)
		if d.roll(40) == 0 {
			count = 200 + d.roll(57)
		}
		l := d.list(count)
		want, _ := wordsJoin(l)
		expectJoined(t, l, want)
		behind := d.bytes(d.roll(70), 256)
		expectSplit(t, want+behind, l, behind)
	}
}

// P12.1, P12.3: a list that is all alike but for its order is told in its order.
func TestOrder(t *testing.T) {
	var l []tag.Raw
	for i := range 256 {
		l = append(l, tag.Raw{Code: 1 + i*4%1023, Body: body(i % 70)})
	}
	want, _ := wordsJoin(l)
	expectJoined(t, l, want)
	slices.Reverse(l)
	want, _ = wordsJoin(l)
	expectJoined(t, l, want)
}
