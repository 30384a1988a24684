package movie_test

import (
	"reflect"
	"slices"
	"strings"
	"testing"

	"celluloid/api"
	"celluloid/movie"
	"celluloid/pixel"
	"celluloid/tag"
)

// spoil writes into all lists and numbers of what was answered.
func spoil(v reflect.Value) {
	switch v.Kind() {
	case reflect.Slice:
		for i := range v.Len() {
			spoil(v.Index(i))
		}
	case reflect.Struct:
		for i := range v.NumField() {
			spoil(v.Field(i))
		}
	case reflect.Int:
		v.SetInt(-77)
	}
}

// expectTaken holds TakeTag to a tag that is right, in memory of its own.
func expectTaken(t *testing.T, r tag.Raw, want movie.Tag) {
	t.Helper()
	for range 2 {
		x, e := movie.TakeTag(r)
		if !sameTag(x, want) || e != api.OK {
			t.Errorf("TakeTag of %d, %s = %s, %d, want %s", r.Code, said(r.Body), said(x), e, said(want))
			return
		}
		if !movie.RightTag(x) {
			t.Errorf("TakeTag of %d, %s = %s, which is not right", r.Code, said(r.Body), said(x))
		}
		// What is written into the one answer is not seen in the other one.
		spoil(reflect.ValueOf(&x).Elem())
	}
}

// expectNotTaken holds TakeTag to an error, with nothing beside it.
func expectNotTaken(t *testing.T, code int, body string, want api.Errno) {
	t.Helper()
	if x, e := movie.TakeTag(tag.Raw{Code: code, Body: body}); !sameTag(x, movie.Tag{}) || e != want {
		t.Errorf("TakeTag of %d, %s = %s, %d, want the error %d", code, said(body), said(x), e, want)
	}
}

// expectTakenAsTheWordsSay holds TakeTag to the words, and what is taken to being put, and taken as the same; it tells the error.
func expectTakenAsTheWordsSay(t *testing.T, code int, body string) api.Errno {
	t.Helper()
	x, e := wordsTakeTag(tag.Raw{Code: code, Body: body})
	if e != api.OK {
		expectNotTaken(t, code, body, e)
		return e
	}
	expectTaken(t, tag.Raw{Code: code, Body: body}, x)
	expectTag(t, x, wordsBody(x))
	return api.OK
}

// raws are the bytes of a list.
func raws(l ...tag.Raw) string { return ok(tag.Join(l)) }

// ofSprite is the body of a sprite with a list's bytes.
func ofSprite(list string) string { return "\x01\x00\x02\x00" + list }

// badMatrix are bytes that layer 7 tells ErrField of: B is 2^22 + 1, and all else is 0.
var badMatrix = func() string {
	// 0, no A and D; 1, and in 5 bits the width 24 of B and C; 5 bits of a width of 0; up to whole bytes.
	digits := "0" + "1" + "11000" + "010000000000000000000001" + strings.Repeat("0", 24) + "00000"
	return ofDigits(digits)
}()

// badCx are bytes that layer 7 tells ErrField of: an Add is 256.
var badCx = ofDigits("1" + "0" + "1010" + "0100000000" + strings.Repeat("0", 30))

// tooManyCodes are packed bytes that layer 5 tells ErrCode of: a block whose 19 codes of lengths have all one bit.
const tooManyCodes = "\x05\xe0\x93\x24\x49\x92\x24\x49\x92\x24"

func ofDigits(digits string) string {
	for len(digits)%8 > 0 {
		digits += "0"
	}
	var s []byte
	for i := 0; i < len(digits); i += 8 {
		var b byte
		for _, d := range digits[i : i+8] {
			b = b<<1 | byte(d-'0')
		}
		s = append(s, b)
	}
	return string(s)
}

// P13.2: a Code that is no tag's Kind is ErrField, 0 too, whatever its body.
func TestTakeOfCodesThatAreNone(t *testing.T) {
	for _, code := range append(edges(), []int{2, 3, 8, 10, 25, 27, 29, 31, 33, 35, 37, 38, 40, 45, 47, 1022, 1023, 1024, 1<<32 + 1, 1<<32 + 9}...) {
		if slices.Contains(kinds, code) {
			continue
		}
		for _, body := range []string{"", "\x00", "\x01\x02\x03", wordsBody(whole(26)), wordsBody(whole(32)), wordsBody(whole(39))} {
			expectNotTaken(t, code, body, api.ErrField)
		}
	}
	for code := range 1100 {
		for _, body := range []string{"", "\x05\x00", "\x01\x02\x03", wordsBody(whole(32))} {
			expectTakenAsTheWordsSay(t, code, body)
		}
	}
}

// P13.2: bodies that end at each place are ErrShort, of each Kind.
func TestTakeOfBodiesThatEnd(t *testing.T) {
	for _, kind := range kinds {
		body := wordsBody(whole(kind))
		for n := range len(body) {
			expectNotTaken(t, kind, body[:n], api.ErrShort)
		}
		expectTaken(t, tag.Raw{Code: kind, Body: body}, whole(kind))
	}
}

// P13.2: more behind a body is ErrField, of each Kind.
func TestTakeOfMore(t *testing.T) {
	for _, kind := range kinds {
		body := wordsBody(whole(kind))
		for _, behind := range []string{"\x00", "\x00\x00", "x", "behind", body + "x", strings.Repeat("\x00", 300)} {
			expectNotTaken(t, kind, body+behind, api.ErrField)
		}
	}
}

// P13.2: each byte of Flags, with all that it tells; with each place where it may end; and with more behind.
func TestTakeOfEachByteOfFlags(t *testing.T) {
	for flags := range 256 {
		p := placed(flags)
		body := wordsPlace(p)
		right := flags < 128 && flags/32%2 == 0 && flags%4 > 0
		if right {
			expectTaken(t, tag.Raw{Code: 26, Body: body}, place(p))
		} else {
			expectNotTaken(t, 26, body, api.ErrField)
		}
		// That Flags are not such is told behind what stands there.
		for n := range len(body) {
			expectNotTaken(t, 26, body[:n], api.ErrShort)
		}
		expectNotTaken(t, 26, body+"\x00", api.ErrField)
	}
}

// P13.2: numbers that are not as they must be are told behind all errors of the parts.
func TestTakeOfNumbers(t *testing.T) {
	for depth := range 1 << 16 {
		right := depth > 0 && depth < 256
		for _, c := range []struct {
			kind int
			body string
			x    movie.Tag
		}{
			{28, little(depth, 2), remove(depth)},
			{26, "\x01" + little(depth, 2), place(movie.Place{Flags: 1, Depth: depth})},
			{26, "\x41\x03\x00" + little(depth, 2), place(movie.Place{Flags: 65, Depth: 3, Clip: depth})},
		} {
			if depth > 600 && depth%256 > 2 {
				continue
			}
			if right {
				expectTaken(t, tag.Raw{Code: c.kind, Body: c.body}, c.x)
			} else {
				expectNotTaken(t, c.kind, c.body, api.ErrField)
			}
			expectNotTaken(t, c.kind, c.body+"\x00", api.ErrField)
			expectNotTaken(t, c.kind, c.body[:len(c.body)-1], api.ErrShort)
		}
	}
	// A Depth that is none, and each number behind it that is missing.
	for _, depth := range []int{0, 256, 65535} {
		p := placed(95)
		p.Depth = depth
		body := wordsPlace(p)
		for n := range len(body) {
			expectNotTaken(t, 26, body[:n], api.ErrShort)
		}
		expectNotTaken(t, 26, body, api.ErrField)
		expectNotTaken(t, 28, little(depth, 2)[:1], api.ErrShort)
	}
	// ID and Ratio may be any.
	for _, n := range []int{0, 1, 255, 256, 65534, 65535} {
		expectTaken(t, tag.Raw{Code: 26, Body: "\x12\x01\x00" + little(n, 2) + little(65535-n, 2)}, place(movie.Place{Flags: 18, Depth: 1, ID: n, Ratio: 65535 - n}))
		expectTaken(t, tag.Raw{Code: 39, Body: little(n, 2) + little(65535-n, 2) + "\x00\x00"}, sprite(n, 65535-n))
	}
}

// P13.2: which error is told of a place's parts: the one that stands first.
func TestTakeOfPlacesParts(t *testing.T) {
	same := "\x00"
	for _, c := range []struct {
		body string
		e    api.Errno
	}{
		{"\x05\x01\x00" + badMatrix, api.ErrField},
		{"\x05\x01\x00" + badMatrix[:len(badMatrix)-1], api.ErrShort},
		{"\x0d\x01\x00" + badMatrix, api.ErrField},
		{"\x0d\x01\x00" + same, api.ErrShort},
		{"\x0d\x01\x00" + same + badCx, api.ErrField},
		{"\x0d\x01\x00" + same + badCx[:len(badCx)-1], api.ErrShort},
		{"\x1d\x01\x00" + same + badCx, api.ErrField},
		{"\x1d\x01\x00" + same + same, api.ErrShort},
		{"\x5d\x01\x00" + same + badCx, api.ErrField},
		{"\x09\x01\x00" + badCx, api.ErrField},
		{"\x49\x01\x00" + badCx + "\x00", api.ErrField},
		{"\x49\x01\x00" + same + "\x00", api.ErrShort},
		{"\x49\x00\x00" + same + "\x00", api.ErrShort},
		{"\xff\x00\x00\x00\x00" + same + same + "\x00\x00\x00", api.ErrShort},
		{"\xff\x00\x00\x00\x00" + same + same + "\x00\x00\x00\x00", api.ErrField},
		{"\xff\x00\x00\x00\x00" + same + badCx, api.ErrField},
		{"\x20", api.ErrShort},
		{"\x20\x01\x00", api.ErrField},
		{"\x80\x01", api.ErrShort},
		{"\x00", api.ErrShort},
		{"\x00\x00\x00", api.ErrField},
		{"", api.ErrShort},
	} {
		expectNotTaken(t, 26, c.body, c.e)
		if _, e := wordsTakeTag(tag.Raw{Code: 26, Body: c.body}); e != c.e {
			t.Errorf("the words say %d of %q, want %d", e, c.body, c.e)
		}
	}
}

// P13.2: any three bytes are a Back.
func TestTakeOfBack(t *testing.T) {
	for v := range 256 {
		expectTaken(t, tag.Raw{Code: 9, Body: string([]byte{byte(v), byte(v * 7), byte(255 - v)})}, back(v, v*7%256, 255-v))
	}
}

// P13.2: the errors of a shape's, a morph's and a bitmap's bytes are their layers'.
func TestTakeOfPartsOfLayersBelow(t *testing.T) {
	pixels := wordsBody(whole(36))
	turned := func(s string, at int, b byte) string { return s[:at] + string([]byte{b}) + s[at+1:] }
	for _, c := range []struct {
		kind int
		body string
		e    api.Errno
	}{
		// Of a shape: a Bounds whose Left is beyond its Right; 16 fills; a Kind of fill that is none.
		{32, "\x01\x00" + ofDigits("00010"+"01"+"00"+"00"+"00"), api.ErrField},
		{32, "\x01\x00\x00\x10", api.ErrLimit},
		{32, "\x01\x00\x00\x01\x01", api.ErrField},
		{32, "\x01\x00\x00\x01", api.ErrShort},
		// Of a morph: 16 fills; four bytes that do not tell how many stand ahead of Target.
		{46, "\x00\x00\x00\x00\x04\x00\x00\x00\x10", api.ErrLimit},
		{46, "\x00\x00\x00\x00\x05\x00\x00\x00\x00\x00\x00\x00\x00\x00", api.ErrField},
		{46, "\x00\x00\x00\x00\x05\x00\x00\x00\x00\x00\x00\x00\x00", api.ErrShort},
		// Of a bitmap: a format that is none; no width, and too great a one; a block of the kind 3; 19 codes of one bit; another sum; pixels for another width; more behind.
		{36, turned(pixels, 2, 4), api.ErrField},
		{36, turned(pixels, 3, 0), api.ErrLimit},
		{36, turned(pixels, 3, 65), api.ErrLimit},
		{36, pixels[:9] + "\x07", api.ErrField},
		{36, pixels[:9] + tooManyCodes, api.ErrCode},
		{36, turned(pixels, len(pixels)-1, pixels[len(pixels)-1]^1), api.ErrSum},
		{36, turned(pixels, 3, 3), api.ErrField},
		{36, pixels + "\x00", api.ErrField},
	} {
		expectNotTaken(t, c.kind, c.body, c.e)
		if _, e := wordsTakeTag(tag.Raw{Code: c.kind, Body: c.body}); e != c.e {
			t.Errorf("the words say %d of %d, %q, want %d", e, c.kind, c.body, c.e)
		}
	}
	// A bitmap of the format 3 is taken too, and written as one of the format 5.
	b := "\x09\x00\x03\x03\x00\x01\x00\x01" + closed("\xff\x00\x00\xff\x80\x00\x00\x80"+"\x01\x00\x01\x00")
	x := movie.Tag{Kind: 36, Bitmap: pixel.Bitmap{ID: 9, W: 3, H: 1, Pixels: []api.RGBA{{R: 128, A: 128}, red, {R: 128, A: 128}}}}
	expectTaken(t, tag.Raw{Code: 36, Body: b}, x)
	expectTag(t, x, wordsBody(x))
}

// P13.2: a sprite's list, with each of layer 12's errors.
func TestTakeOfASpritesList(t *testing.T) {
	shows := func(count int) string { return strings.Repeat("\x40\x00", count) }
	for _, c := range []struct {
		list string
		e    api.Errno
	}{
		{"", api.ErrShort},
		{"\x00", api.ErrShort},
		{"\x40", api.ErrShort},
		{"\x40\x00", api.ErrShort},
		{"\x42\x00x", api.ErrShort},
		{"\x7f\x00\x01\x00\x00\x00", api.ErrShort},
		{"\x01\x00x\x00\x00", api.ErrField},
		{"\x40\x00\x01\x00x\x00\x00", api.ErrField},
		{shows(257), api.ErrLimit},
		{shows(257) + "\x00\x00", api.ErrLimit},
		{shows(256), api.ErrShort},
		{"\x00\x00\x00", api.ErrField},
		{"\x00\x00behind", api.ErrField},
		{shows(256) + "\x00\x00\x00", api.ErrField},
		// Split's errors of the whole list are told ahead of any tag's own.
		{"\x43\x02abc", api.ErrShort},
		{"\x41\x00x", api.ErrShort},
		{"\x80\x00" + shows(256), api.ErrLimit},
		{"\x41\x00x" + shows(256), api.ErrLimit},
		{"\x00\x07\x01\x00x", api.ErrField},
		// A tag's own errors are told ahead of what stands behind the list.
		{"\x01\x07\x01" + "\x00\x00" + "behind", api.ErrShort},
	} {
		expectNotTaken(t, 39, ofSprite(c.list), c.e)
		if _, e := wordsTakeTag(tag.Raw{Code: 39, Body: ofSprite(c.list)}); e != c.e {
			t.Errorf("the words say %d of %s, want %d", e, said(c.list), c.e)
		}
	}
	for _, count := range []int{0, 1, 255, 256} {
		want := sprite(1, 2, slices.Repeat([]movie.Tag{show}, count)...)
		expectTaken(t, tag.Raw{Code: 39, Body: ofSprite(shows(count) + "\x00\x00")}, want)
		// The end, and each tag, may be told in four bytes too.
		expectTaken(t, tag.Raw{Code: 39, Body: ofSprite(strings.Repeat("\x7f\x00\x00\x00\x00\x00", count) + "\x3f\x00\x00\x00\x00\x00")}, want)
	}
}

// P13.2: tag by tag of a sprite: one that is no step is told ahead of what it has, and behind the tags ahead of it.
func TestTakeOfASpritesTags(t *testing.T) {
	short := tag.Raw{Code: 28, Body: "\x01"}
	no := []tag.Raw{{Code: 9, Body: "\x01\x02\x03"}, {Code: 32, Body: wordsBody(whole(32))}, {Code: 36, Body: wordsBody(whole(36))}, {Code: 39, Body: ofSprite("\x00\x00")}, {Code: 46, Body: wordsBody(whole(46))}, {Code: 2}, {Code: 27}, {Code: 1023}}
	for _, x := range no {
		for _, body := range []string{x.Body, "", "\x01", "\x01\x00\x00\x10"} {
			bad := tag.Raw{Code: x.Code, Body: body}
			expectNotTaken(t, 39, ofSprite(raws(bad)), api.ErrField)
			expectNotTaken(t, 39, ofSprite(raws(tag.Raw{Code: 1}, bad, tag.Raw{Code: 1})), api.ErrField)
			expectNotTaken(t, 39, ofSprite(raws(bad, short)), api.ErrField)
			expectNotTaken(t, 39, ofSprite(raws(short, bad)), api.ErrShort)
			expectNotTaken(t, 39, ofSprite(raws(tag.Raw{Code: 1}, short, bad)), api.ErrShort)
			expectNotTaken(t, 39, ofSprite(raws(bad, short)+"behind"), api.ErrField)
			expectNotTaken(t, 39, ofSprite(raws(short, bad)+"behind"), api.ErrShort)
		}
	}
	for _, c := range []struct {
		l []tag.Raw
		e api.Errno
	}{
		{[]tag.Raw{{Code: 28, Body: "\x00\x00"}, short}, api.ErrField},
		{[]tag.Raw{short, {Code: 28, Body: "\x00\x00"}}, api.ErrShort},
		{[]tag.Raw{{Code: 1, Body: "x"}, short}, api.ErrField},
		{[]tag.Raw{short, {Code: 1, Body: "x"}}, api.ErrShort},
		{[]tag.Raw{{Code: 26, Body: "\x20\x01"}}, api.ErrShort},
		{[]tag.Raw{{Code: 26, Body: "\x20\x01\x00"}}, api.ErrField},
		{[]tag.Raw{{Code: 26, Body: "\x05\x01\x00" + badMatrix}, short}, api.ErrField},
		{[]tag.Raw{{Code: 26}}, api.ErrShort},
	} {
		expectNotTaken(t, 39, ofSprite(raws(c.l...)), c.e)
		for _, count := range []int{1, 254} {
			expectNotTaken(t, 39, ofSprite(raws(append(slices.Repeat([]tag.Raw{{Code: 1}}, count), c.l...)...)), c.e)
		}
	}
	want := sprite(1, 2, show, place(placed(95)), show, remove(255), place(movie.Place{Flags: 1, Depth: 1}))
	expectTaken(t, tag.Raw{Code: 39, Body: ofSprite(raws(tag.Raw{Code: 1}, tag.Raw{Code: 26, Body: wordsPlace(placed(95))}, tag.Raw{Code: 1}, tag.Raw{Code: 28, Body: "\xff\x00"}, tag.Raw{Code: 26, Body: "\x01\x01\x00"}))}, want)
}

// P13.2, P1: any bytes are as the words say, of each Kind.
func TestAnyBodies(t *testing.T) {
	d := dice(5)
	told := map[api.Errno]int{}
	for range 30000 {
		code := kinds[d.roll(len(kinds))]
		if d.roll(30) == 0 {
			code = d.roll(1024)
		}
		told[expectTakenAsTheWordsSay(t, code, d.bytes(d.roll(24), []int{2, 3, 17, 66, 256}[d.roll(5)]))]++
	}
	if told[api.OK] < 300 || told[api.ErrShort] < 1000 || told[api.ErrField] < 1000 || told[api.ErrLimit] < 100 {
		t.Errorf("too few of a kind: %v", told)
	}
}

// P13.2, P13.4: bodies of right tags with bytes turned, left away or put in are as the words say.
func TestMuddledBodies(t *testing.T) {
	t.Parallel()
	d := dice(6)
	told := map[api.Errno]int{}
	for range 12000 {
		x := d.tag()
		told[expectTakenAsTheWordsSay(t, x.Kind, d.muddled(wordsBody(x)))]++
	}
	if told[api.OK] < 1000 || told[api.ErrShort] < 1000 || told[api.ErrField] < 1000 || told[api.ErrLimit] < 50 || told[api.ErrSum] < 50 {
		t.Errorf("too few of a kind: %v", told)
	}
}
