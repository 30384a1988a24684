package tag_test

import (
	"slices"
	"strings"
	"testing"

	"celluloid/api"
	"celluloid/tag"
)

// expectAsTheWordsSay holds Take and Split to the words, and what is split to being joined, and split to the same; it tells Split's error.
func expectAsTheWordsSay(t *testing.T, s string) api.Errno {
	t.Helper()
	if x, rest, e := wordsTake(s); e == api.OK {
		expectTaken(t, s, x, rest)
	} else {
		expectNotTaken(t, s, e)
	}
	l, rest, e := wordsSplit(s, 0)
	if e != api.OK {
		expectNotSplit(t, s, e)
		return e
	}
	expectSplit(t, s, l, rest)
	joined, _ := wordsJoin(l)
	expectJoined(t, l, joined)
	expectSplit(t, joined+rest, l, rest)
	return api.OK
}

// tags are as many short ones, one behind the other, with no end.
func tags(count int) string {
	return strings.Repeat("\x40\x00", count)
}

// P12.2: tags and rests by hand.
func TestTakeByHand(t *testing.T) {
	for _, c := range []struct {
		s    string
		x    tag.Raw
		rest string
	}{
		{"\x40\x00", tag.Raw{Code: 1}, ""},
		{"\x40\x00\x40\x00", tag.Raw{Code: 1}, "\x40\x00"},
		{"\x00\x00", tag.Raw{}, ""},
		{"\x00\x00\x00", tag.Raw{}, "\x00"},
		{"\x02\x00abc", tag.Raw{Body: "ab"}, "c"},
		{"\x43\x02abc", tag.Raw{Code: 9, Body: "abc"}, ""},
		{"\xc1\xff\x80rest", tag.Raw{Code: 1023, Body: "\x80"}, "rest"},
		{"\x00\x80rest", tag.Raw{Code: 512}, "rest"},
		{"\x3f\x00\x00\x00\x00\x00", tag.Raw{}, ""},
		{"\x3f\x00\x01\x00\x00\x00xy", tag.Raw{Body: "x"}, "y"},
		{"\x7f\x00\x00\x00\x00\x00rest", tag.Raw{Code: 1}, "rest"},
	} {
		expectTaken(t, c.s, c.x, c.rest)
	}
	for _, s := range []string{"", "\x00", "\x40", "\xff", "\x01\x00", "\x42\x00x", "\x3f\x00", "\x3f\x00\x00", "\xff\xff\x00\x00\x00", "\x3f\x00\x01\x00\x00\x00"} {
		expectNotTaken(t, s, api.ErrShort)
	}
}

// P12.2: all first two bytes, with just as many bytes behind them as they tell, and with fewer and more.
func TestTakeOfEachHead(t *testing.T) {
	for head := range 1 << 16 {
		code, size := head/64, head%64
		if size == 63 {
			expectNotTaken(t, little(head, 2)+"\x02\x00\x00\x00a", api.ErrShort)
			expectTaken(t, little(head, 2)+"\x02\x00\x00\x00abc", tag.Raw{Code: code, Body: "ab"}, "c")
			continue
		}
		b := body(size + 2)
		if size > 0 {
			expectNotTaken(t, little(head, 2)+b[:size-1], api.ErrShort)
		}
		expectTaken(t, little(head, 2)+b[:size], tag.Raw{Code: code, Body: b[:size]}, "")
		expectTaken(t, little(head, 2)+b, tag.Raw{Code: code, Body: b[:size]}, b[size:])
	}
}

// P12.2: bytes that end at each place ahead of the tag's end are ErrShort, and there is nothing beside it.
func TestTakeOfBytesThatEnd(t *testing.T) {
	for _, code := range codes {
		for _, size := range sizes[:12] {
			s, _ := wordsPut(tag.Raw{Code: code, Body: body(size)})
			for n := range len(s) {
				expectNotTaken(t, s[:n], api.ErrShort)
			}
			s = long(code, size, body(size))
			for n := range len(s) {
				expectNotTaken(t, s[:n], api.ErrShort)
			}
		}
	}
}

// P12.2: four bytes may tell a body of any length, below 63 too.
func TestTakeOfLongOnes(t *testing.T) {
	for _, code := range codes {
		for size := range 70 {
			x := tag.Raw{Code: code, Body: body(size)}
			for _, behind := range []string{"", "\x00", "\x00\x00", "behind"} {
				expectTaken(t, long(code, size, x.Body)+behind, x, behind)
			}
			if code > 0 {
				expectSplit(t, long(code, size, x.Body)+"\x00\x00behind", []tag.Raw{x}, "behind")
			}
		}
		for _, size := range sizes {
			x := tag.Raw{Code: code, Body: body(size)}
			expectTaken(t, long(code, size, x.Body), x, "")
			expectTaken(t, long(code, size, x.Body)+"\x01", x, "\x01")
		}
	}
}

// P12.2: four bytes that tell more than there is: one byte more, and up to 2^32 - 1.
func TestTakeOfBodiesThatAreNotThere(t *testing.T) {
	for _, size := range []int{0, 1, 62, 63, 64, 255, 256, 65536} {
		for _, told := range []int{size + 1, size + 2, size + 256, size + 65536, 1 << 24, 1<<31 - 1, 1 << 31, 1<<31 + 1, 1<<32 - 256, 1<<32 - 2, 1<<32 - 1} {
			expectNotTaken(t, long(1, told, body(size)), api.ErrShort)
			expectNotTaken(t, long(0, told, body(size)), api.ErrShort)
		}
		expectTaken(t, long(1, size, body(size)), tag.Raw{Code: 1, Body: body(size)}, "")
	}
	// Each of the four bytes counts.
	for i := range 4 {
		told := 1 << (8 * i)
		if i < 3 {
			expectTaken(t, long(5, told, body(told)), tag.Raw{Code: 5, Body: body(told)}, "")
		}
		expectNotTaken(t, long(5, told, body(min(told-1, 70000))), api.ErrShort)
	}
}

// P12.2: a list ends at the first tag of the Code 0, told in either way, and all behind it is the rest.
func TestSplitByHand(t *testing.T) {
	for _, c := range []struct {
		s    string
		l    []tag.Raw
		rest string
	}{
		{"\x00\x00", nil, ""},
		{"\x00\x00\x00", nil, "\x00"},
		{"\x00\x00\x40\x00\x00\x00", nil, "\x40\x00\x00\x00"},
		{"\x40\x00\x00\x00", []tag.Raw{{Code: 1}}, ""},
		{"\x40\x00\x00\x00\x00\x00", []tag.Raw{{Code: 1}}, "\x00\x00"},
		{"\x43\x02abc\x80\x00\x00\x00\x01\x00x", []tag.Raw{{Code: 9, Body: "abc"}, {Code: 2}}, "\x01\x00x"},
		{"\x3f\x00\x00\x00\x00\x00", nil, ""},
		{"\x3f\x00\x00\x00\x00\x00rest", nil, "rest"},
		{"\x40\x00\x3f\x00\x00\x00\x00\x00\x00\x00", []tag.Raw{{Code: 1}}, "\x00\x00"},
		{"\x7f\x00\x02\x00\x00\x00\x00\x00\x00\x00", []tag.Raw{{Code: 1, Body: "\x00\x00"}}, ""},
		{"\x42\x00\x00\x00\x00\x00", []tag.Raw{{Code: 1, Body: "\x00\x00"}}, ""},
		{"\xc0\xff\xc0\xff\x00\x00\xff", []tag.Raw{{Code: 1023}, {Code: 1023}}, "\xff"},
	} {
		expectSplit(t, c.s, c.l, c.rest)
	}
}

// P12.2: a list without an end, and one cut at each place, is ErrShort.
func TestSplitOfListsWithoutAnEnd(t *testing.T) {
	d := dice(2)
	expectNotSplit(t, "", api.ErrShort)
	for range 60 {
		l := d.list(d.roll(5))
		s, _ := wordsJoin(l)
		for n := range len(s) {
			if len(s) < 2000 || n > len(s)-1000 || n%61 == 0 {
				expectNotSplit(t, s[:n], api.ErrShort)
			}
		}
		expectSplit(t, s, l, "")
	}
	for _, count := range []int{1, 2, 100, 255, 256} {
		expectNotSplit(t, tags(count), api.ErrShort)
		expectNotSplit(t, tags(count)+"\x00", api.ErrShort)
		expectSplit(t, tags(count)+"\x00\x00", slices.Repeat([]tag.Raw{{Code: 1}}, count), "")
	}
}

// P12.2: a tag of the Code 0 with a body is ErrField, in either way, behind as many tags as there may be.
func TestSplitOfAnEndWithABody(t *testing.T) {
	for _, count := range []int{0, 1, 2, 100, 255, 256} {
		for _, size := range []int{1, 2, 61, 62, 63, 64, 255, 256, 65536} {
			b := body(size)
			end, _ := wordsPut(tag.Raw{Body: b})
			for _, behind := range []string{"", "\x00\x00", tags(3)} {
				expectNotSplit(t, tags(count)+end+behind, api.ErrField)
				expectNotSplit(t, tags(count)+long(0, size, b)+behind, api.ErrField)
			}
			// Its body must be there first.
			expectNotSplit(t, tags(count)+end[:len(end)-1], api.ErrShort)
			expectNotSplit(t, tags(count)+long(0, size, b)[:5+size], api.ErrShort)
		}
		expectSplit(t, tags(count)+long(0, 0, ""), slices.Repeat([]tag.Raw{{Code: 1}}, count), "")
	}
}

// P12.2: 256 tags are split; a 257th of another Code than 0 is ErrLimit, ahead of what stands behind it and behind Take's error of it.
func TestSplitOfHowMany(t *testing.T) {
	for _, count := range []int{1, 128, 254, 255, 256} {
		l := slices.Repeat([]tag.Raw{{Code: 1}}, count)
		for _, behind := range []string{"", "\x00", tags(300), "\x01\x00x"} {
			expectSplit(t, tags(count)+"\x00\x00"+behind, l, behind)
		}
	}
	for _, last := range []string{"\x40\x00", "\xc0\xff", "\x43\x02abc", long(1, 0, ""), long(1023, 63, body(63)), long(2, 65536, body(65536))} {
		for _, behind := range []string{"", "\x00", "\x00\x00", "\x01\x00x", "\x01\x00", "\x40\x00\x00\x00", tags(1000), "\x7f\x00\xff\xff\xff\xff"} {
			expectNotSplit(t, tags(256)+last+behind, api.ErrLimit)
		}
		for _, n := range []int{0, 1, len(last) - 1} {
			expectNotSplit(t, tags(256)+last[:n], api.ErrShort)
		}
		// As the 256th, it is one of the list.
		x, _, _ := wordsTake(last)
		expectSplit(t, tags(255)+last+"\x00\x00", append(slices.Repeat([]tag.Raw{{Code: 1}}, 255), x), "")
	}
	for _, count := range []int{257, 258, 512, 513, 1000, 65536 + 256} {
		expectNotSplit(t, tags(count), api.ErrLimit)
		expectNotSplit(t, tags(count)+"\x00\x00", api.ErrLimit)
	}
	// The first error is told from the front.
	expectNotSplit(t, tags(256)+long(1, 1<<32-1, "x"), api.ErrShort)
	expectNotSplit(t, tags(256)+"\x42\x00x", api.ErrShort)
	expectNotSplit(t, tags(256)+"\x01\x00x", api.ErrField)
	expectNotSplit(t, tags(255)+"\x01\x00x"+tags(10), api.ErrField)
	expectNotSplit(t, tags(3)+"\x01\x00x\x40", api.ErrField)
}

// P12.2, P12.3, P1: any bytes are as the words say; what is split and each error are among them.
func TestAnyBytes(t *testing.T) {
	d := dice(3)
	told := map[api.Errno]int{}
	for range 24000 {
		s := d.bytes(d.roll(30), []int{2, 3, 6, 66, 256}[d.roll(5)])
		if d.roll(4) == 0 {
			s = tags(254+d.roll(3)) + s
		}
		told[expectAsTheWordsSay(t, s)]++
	}
	if told[api.OK] < 1000 || told[api.ErrShort] < 1000 || told[api.ErrField] < 1000 || told[api.ErrLimit] < 500 {
		t.Errorf("too few of a kind: %v", told)
	}
}

// P12.2, P12.3: lists whose tags are told in either way, with bytes turned, left away or put in, are as the words say.
func TestMuddledLists(t *testing.T) {
	d := dice(4)
	told := map[api.Errno]int{}
	for range 6000 {
		s := ""
		for range d.roll(6) {
			x := tag.Raw{Code: d.code(), Body: d.bytes(d.roll(70), 256)}
			one, _ := wordsPut(x)
			if d.roll(2) > 0 {
				one = long(x.Code, len(x.Body), x.Body)
			}
			s += one
		}
		s += []string{"\x00\x00", long(0, 0, "")}[d.roll(2)] + d.bytes(d.roll(9), 256)
		at := d.roll(len(s))
		switch d.roll(4) {
		case 0:
			s = s[:at] + string([]byte{s[at] ^ byte(1<<d.roll(8))}) + s[at+1:]
		case 1:
			s = s[:at] + s[at+1:]
		case 2:
			s = s[:at] + d.bytes(1, 256) + s[at:]
		}
		told[expectAsTheWordsSay(t, s)]++
	}
	if told[api.OK] < 1000 || told[api.ErrShort] < 300 {
		t.Errorf("too few of a kind: %v", told)
	}
}

// P12.3: what is split and joined is split to the same, whether its tags were told in the shorter way or not.
func TestSplitAndJoined(t *testing.T) {
	d := dice(5)
	for range 300 {
		l := d.list(d.roll(12))
		s := ""
		for _, x := range l {
			s += long(x.Code, len(x.Body), x.Body)
		}
		s += long(0, 0, "")
		first, rest, e := tag.Split(s + "rest")
		if !slices.Equal(first, l) || rest != "rest" || e != api.OK {
			t.Fatalf("Split = %d tags, %q, %d, want %d", len(first), said(rest), e, len(l))
		}
		joined, e := tag.Join(first)
		if e != api.OK || len(joined) > len(s) {
			t.Fatalf("Join = %d bytes, %d", len(joined), e)
		}
		expectSplit(t, joined, l, "")
	}
}
