package movie_test

import (
	"bytes"
	"compress/zlib"
	"reflect"
	"slices"
	"strings"
	"testing"

	"celluloid/api"
	"celluloid/morph"
	"celluloid/movie"
	"celluloid/pixel"
	"celluloid/shape"
	"celluloid/tag"
)

// dice are numbers that are always the same ones.
type dice uint64

func (d *dice) roll(count int) int {
	x := uint64(*d)
	x ^= x << 13
	x ^= x >> 7
	x ^= x << 17
	*d = dice(x)
	return int(x>>11) % count
}

// upTo is a number from 0 to highest, often one of these.
func (d *dice) upTo(highest int) int {
	switch d.roll(6) {
	case 0:
		return 0
	case 1:
		return highest
	}
	return d.roll(highest + 1)
}

// about is a number from -highest to highest, of any size.
func (d *dice) about(highest int) int {
	return (d.roll(2)*2 - 1) * min(d.upTo(highest), 1<<d.roll(24))
}

// bytes are count of them, of so many kinds.
func (d *dice) bytes(count int, kinds int) string {
	s := make([]byte, count)
	for i := range s {
		s[i] = byte(d.roll(kinds))
	}
	return string(s)
}

func (d *dice) color() api.RGBA {
	return api.RGBA{R: d.upTo(255), G: d.upTo(255), B: d.upTo(255), A: d.upTo(255)}
}

func (d *dice) rect() api.Rect {
	x, y := []int{d.about(1 << 20), d.about(1 << 20)}, []int{d.about(1 << 20), d.about(1 << 20)}
	return api.Rect{Left: slices.Min(x), Right: slices.Max(x), Top: slices.Min(y), Bottom: slices.Max(y)}
}

func (d *dice) matrix() api.Matrix {
	return api.Matrix{A: d.about(1 << 22), B: d.about(1 << 22), C: d.about(1 << 22), D: d.about(1 << 22), X: d.about(1 << 20), Y: d.about(1 << 20)}
}

func (d *dice) cx() (c api.Cx) {
	for i := range 4 {
		c.Mul[i], c.Add[i] = d.about(512), d.about(255)
	}
	return c
}

func (d *dice) place() movie.Place {
	p := movie.Place{Flags: d.roll(3) + 1 + 4*d.roll(8) + 64*d.roll(2), Depth: 1 + d.upTo(254)}
	if p.Flags&2 > 0 {
		p.ID = d.upTo(65535)
	}
	if p.Flags&4 > 0 {
		p.Matrix = d.matrix()
	}
	if p.Flags&8 > 0 {
		p.Cx = d.cx()
	}
	if p.Flags&16 > 0 {
		p.Ratio = d.upTo(65535)
	}
	if p.Flags&64 > 0 {
		p.Clip = 1 + d.upTo(254)
	}
	return p
}

// step is a right tag of a Kind that is a step.
func (d *dice) step() movie.Tag {
	switch d.roll(3) {
	case 0:
		return show
	case 1:
		return remove(1 + d.upTo(254))
	}
	return place(d.place())
}

// records are right ones beside one fill, without Sets or new styles.
func (d *dice) records() (l []api.Record) {
	for range d.roll(5) {
		v := api.Record{Kind: 4 + d.roll(2), X: d.about(65535), Y: d.about(65535)}
		if v.Kind == 5 {
			v.CX, v.CY = d.about(65535), d.about(65535)
		}
		l = append(l, v)
	}
	return l
}

func (d *dice) shape() shape.Shape {
	s := shape.Shape{ID: d.upTo(65535), Bounds: d.rect(), Records: d.records()}
	if d.roll(2) > 0 {
		s.Fills = []api.Fill{{Color: d.color()}, {Kind: 64 + d.roll(2), Matrix: d.matrix(), ID: d.upTo(65535)}}
		s.Records = append(s.Records, api.Record{Kind: 2, Left: d.roll(3), Right: -1, Line: -1})
	}
	if d.roll(2) > 0 {
		s.Strokes = []api.Stroke{{Width: d.upTo(65535), Color: d.color()}}
	}
	return s
}

func (d *dice) morph() morph.Morph {
	m := morph.Morph{ID: d.upTo(65535), From: d.rect(), To: d.rect(), Records: d.records(), Target: d.records()}
	if d.roll(2) > 0 {
		m.Fills, m.ToFills = []api.Fill{{Color: d.color()}}, []api.Fill{{Color: d.color()}}
	}
	if d.roll(2) > 0 {
		m.Strokes, m.ToStrokes = []api.Stroke{{Color: d.color()}}, []api.Stroke{{Width: d.upTo(65535)}}
	}
	return m
}

func (d *dice) bitmap() pixel.Bitmap {
	b := pixel.Bitmap{ID: d.upTo(65535), W: 1 + d.roll(6), H: 1 + d.roll(6)}
	for range b.W * b.H {
		a := d.upTo(255)
		b.Pixels = append(b.Pixels, api.RGBA{R: d.upTo(a), G: d.upTo(a), B: d.upTo(a), A: a})
	}
	return b
}

// tag is a right one.
func (d *dice) tag() movie.Tag {
	x := movie.Tag{Kind: kinds[d.roll(len(kinds))]}
	switch x.Kind {
	case 9:
		x.Color = d.color()
		x.Color.A = 255
	case 32:
		x.Shape = d.shape()
	case 36:
		x.Bitmap = d.bitmap()
	case 39:
		x.Sprite.ID, x.Sprite.Frames = d.upTo(65535), d.upTo(65535)
		for range d.roll(5) {
			x.Sprite.Tags = append(x.Sprite.Tags, d.step())
		}
	case 46:
		x.Morph = d.morph()
	default:
		return d.step()
	}
	return x
}

// movie is a right one, of not very many bytes.
func (d *dice) movie(count int) movie.Movie {
	m := movie.Movie{Packed: d.roll(2) > 0, Version: d.upTo(255), Rate: d.upTo(65535), Frames: d.upTo(65535), Size: d.rect()}
	for range count {
		m.Tags = append(m.Tags, d.tag())
	}
	return m
}

// muddled are bytes of which one is turned, left away, put in, or the last; sometimes they stay.
func (d *dice) muddled(s string) string {
	if s == "" {
		return d.bytes(d.roll(2), 256)
	}
	at := d.roll(len(s))
	switch d.roll(7) {
	case 0, 1:
		return s[:at] + string([]byte{s[at] ^ byte(1<<d.roll(8))}) + s[at+1:]
	case 2:
		return s[:at] + d.bytes(1, 256) + s[at+1:]
	case 3:
		return s[:at] + s[at+1:]
	case 4:
		return s[:at] + d.bytes(1, 256) + s[at:]
	case 5:
		return s[:at]
	}
	return s
}

// expectDecoded holds Decode to a movie whose parts are right, in memory of its own.
func expectDecoded(t *testing.T, s string, want movie.Movie) {
	t.Helper()
	for range 2 {
		m, e := movie.Decode(s)
		if !sameMovie(m, want) || e != api.OK {
			t.Errorf("Decode(%s) = %s, %d, want %s", said(s), said(m), e, said(want))
			return
		}
		// What is written into the one answer is not seen in the other one.
		spoil(reflect.ValueOf(&m).Elem())
	}
}

// expectNotDecoded holds Decode to an error, with nothing beside it.
func expectNotDecoded(t *testing.T, s string, want api.Errno) {
	t.Helper()
	if m, e := movie.Decode(s); !sameMovie(m, movie.Movie{}) || e != want {
		t.Errorf("Decode(%s) = %s, %d, want the error %d", said(s), said(m), e, want)
	}
}

// expectDecodedAsTheWordsSay holds Decode to the words, and what is decoded, if it is right, to being encoded, and decoded as the same; it tells the error.
func expectDecodedAsTheWordsSay(t *testing.T, s string) api.Errno {
	t.Helper()
	m, e := wordsDecode(s)
	if e != api.OK {
		expectNotDecoded(t, s, e)
		return e
	}
	expectDecoded(t, s, m)
	if !wordsRightParts(m) {
		t.Errorf("Decode(%s) = %s, the parts of which are not right", said(s), said(m))
	}
	if wordsRight(m) {
		expectMovie(t, m, wordsEncode(m))
	} else {
		expectNoMovie(t, m)
	}
	return api.OK
}

// expectInner holds Decode to an error of inner bytes, packed and not.
func expectInner(t *testing.T, inner string, want api.Errno) {
	t.Helper()
	for _, packed := range []bool{false, true} {
		s := file(packed, 6, inner)
		expectNotDecoded(t, s, want)
		if _, e := wordsDecode(s); e != want {
			t.Errorf("the words say %d of %s, want %d", e, said(inner), want)
		}
	}
}

// zipped are bytes wrapped by the library, so many as there may be.
func zipped(t *testing.T, s string) string {
	t.Helper()
	var b bytes.Buffer
	w := zlib.NewWriter(&b)
	if _, e := w.Write([]byte(s)); e != nil {
		t.Fatal(e)
	}
	if e := w.Close(); e != nil {
		t.Fatal(e)
	}
	return b.String()
}

// head is what stands ahead of a list: Size of noughts, Rate 1, Frames 2.
const head = "\x00\x01\x00\x02\x00"

// P13.3: fewer than 8 bytes are ErrShort, whatever they are.
func TestDecodeOfFewBytes(t *testing.T) {
	for _, s := range []string{wordsEncode(wholeMovie(false)), wordsEncode(wholeMovie(true)), "XYZ\x00\x0f\x00\x00\x00", "fws\x00\x0f\x00\x00\x00", strings.Repeat("\x00", 8)} {
		for n := range 8 {
			expectNotDecoded(t, s[:n], api.ErrShort)
		}
	}
	expectNotDecoded(t, "XYZ\x00\x0f\x00\x00\x00", api.ErrField)
	expectNotDecoded(t, "FWS\x00\x08\x00\x00\x00", api.ErrShort)
	expectNotDecoded(t, "CWS\x00\x08\x00\x00\x00", api.ErrShort)
}

// P13.3: other letters are ErrField, and lower ones; told ahead of all that stands behind.
func TestDecodeOfOtherLetters(t *testing.T) {
	for _, packed := range []bool{false, true} {
		for _, s := range []string{wordsEncode(movie.Movie{Packed: packed}), wordsEncode(wholeMovie(packed))} {
			for i := range 3 {
				for b := range 256 {
					other := s[:i] + string([]byte{byte(b)}) + s[i+1:]
					if other == s || i == 0 && (b == 'F' || b == 'C') {
						continue
					}
					expectNotDecoded(t, other, api.ErrField)
				}
			}
			for _, letters := range []string{"fws", "cws", "Fws", "Cws", "FwS", "CWs", "SWF", "SWC", "ZWS", "WSF", "FSW", "\x00\x00\x00", "FCW", "FFF", "CCC", "WSC", "GFX"} {
				expectNotDecoded(t, letters+s[3:], api.ErrField)
				expectNotDecoded(t, letters+s[3:8], api.ErrField)
				expectNotDecoded(t, letters+s[3:8]+strings.Repeat("\x00", 1<<18+1), api.ErrField)
			}
		}
	}
	// What is packed is not what isn't.
	s := wordsEncode(movie.Movie{})
	expectNotDecoded(t, "C"+s[1:], api.ErrField)
	s = wordsEncode(movie.Movie{Packed: true})
	expectNotDecoded(t, "F"+s[1:], api.ErrField)
}

// P13.3: Version is any byte.
func TestDecodeOfVersions(t *testing.T) {
	for version := range 256 {
		for _, packed := range []bool{false, true} {
			expectDecoded(t, file(packed, version, head+"\x00\x00"), movie.Movie{Packed: packed, Version: version, Rate: 1, Frames: 2})
		}
	}
}

// P13.3: the length is 8 and how many inner bytes there are, packed or not; told ahead of all errors of these.
func TestDecodeOfLengths(t *testing.T) {
	for _, inner := range []string{head + "\x00\x00", wordsInner(wholeMovie(false)), "", "\x00", head, head + "\x01\x00x", head + "\x80\x00\x00\x00"} {
		for _, packed := range []bool{false, true} {
			s := file(packed, 1, inner)
			n := 8 + len(inner)
			for _, told := range []int{n - 1, n + 1, n - 8, n + 8, 0, 7, 8, n + 256, n + 1<<16, n + 1<<24, n ^ 1<<31, 1<<32 - 1, n*256 + n} {
				if told == n || told < 0 {
					continue
				}
				expectNotDecoded(t, s[:4]+little(told, 4)+s[8:], api.ErrField)
			}
			if packed && len(s) != n {
				expectNotDecoded(t, s[:4]+little(len(s), 4)+s[8:], api.ErrField)
			}
			for i := 4; i < 8; i++ {
				for bit := range 8 {
					expectNotDecoded(t, s[:i]+string([]byte{s[i] ^ byte(1<<bit)})+s[i+1:], api.ErrField)
				}
			}
		}
	}
	s := wordsEncode(wholeMovie(false))
	expectNotDecoded(t, s+"\x00", api.ErrField)
	expectNotDecoded(t, s[:len(s)-1], api.ErrField)
}

// P13.3: of one that is not packed, more than 2^18 bytes behind the 8 are ErrLimit, whatever they are.
func TestDecodeOfTooManyBytes(t *testing.T) {
	t.Parallel()
	m := sized(t, 1<<18)
	inner := wordsInner(m)
	expectDecoded(t, file(false, 0, inner), m)
	m.Packed = true
	expectDecoded(t, file(true, 0, inner), m)
	s := file(false, 0, inner)
	for _, behind := range []int{1, 2, 256, 1 << 18} {
		more := inner + strings.Repeat("\x00", behind)
		expectNotDecoded(t, "FWS\x00"+little(8+len(more), 4)+more, api.ErrLimit)
		expectNotDecoded(t, s[:8]+more, api.ErrLimit)
		expectNotDecoded(t, "FWS\x00\x00\x00\x00\x00"+more, api.ErrLimit)
		expectNotDecoded(t, "CWS\x00"+little(8+len(more), 4)+zipped(t, more), api.ErrLimit)
		expectNotDecoded(t, "CWS\x00\x00\x00\x00\x00"+zipped(t, more), api.ErrLimit)
	}
	m = sized(t, 1<<18+1)
	inner = wordsInner(m)
	expectNotDecoded(t, file(false, 0, inner), api.ErrLimit)
	expectNotDecoded(t, "CWS\x00"+little(8+len(inner), 4)+zipped(t, inner), api.ErrLimit)
	// Just 2^18 of any are not too many.
	none := strings.Repeat("\x00", 1<<18)
	expectInner(t, none, api.ErrField)
	expectNotDecoded(t, "FWS\x00\x00\x00\x00\x00"+none, api.ErrField)
	// What is packed may have more bytes than it is unpacked.
	stored := "\x78\x01" + strings.Repeat("\x00\x00\x00\xff\xff", 60000) + closed(head + "\x00\x00")[2:]
	expectDecoded(t, "CWS\x05\x0f\x00\x00\x00"+stored, movie.Movie{Packed: true, Version: 5, Rate: 1, Frames: 2})
}

// P13.3: layer 5's errors of a packed one, told ahead of the length's.
func TestDecodeOfPackedBytes(t *testing.T) {
	good := closed(head + "\x00\x00")
	for _, c := range []struct {
		packed string
		e      api.Errno
	}{
		{"", api.ErrShort},
		{"\x78", api.ErrShort},
		{"\x78\x9c", api.ErrShort},
		{good[:len(good)-1], api.ErrShort},
		{"\x79\x9c" + good[2:], api.ErrField},
		{"\x78\x9d" + good[2:], api.ErrField},
		{"\x78\x9c\x07", api.ErrField},
		{good + "\x00", api.ErrField},
		{"\x78\x9c" + tooManyCodes, api.ErrCode},
		{good[:len(good)-1] + string([]byte{good[len(good)-1] ^ 1}), api.ErrSum},
		{"\x78\x9c\x03\x00\x00\x00\x00\x02", api.ErrSum},
		{zipped(t, strings.Repeat("a", 1<<18+1)), api.ErrLimit},
	} {
		for _, length := range []int{15, 14, 0, 8, 1<<32 - 1} {
			s := "CWS\x01" + little(length, 4) + c.packed
			expectNotDecoded(t, s, c.e)
			if _, e := wordsDecode(s); e != c.e {
				t.Errorf("the words say %d of %s, want %d", e, said(s), c.e)
			}
		}
	}
	// What any packer has made is decoded.
	for _, packed := range []string{good, zipped(t, head+"\x00\x00"), "\x78\x01\x01\x07\x00\xf8\xff" + head + "\x00\x00" + good[len(good)-4:]} {
		expectDecoded(t, "CWS\x01\x0f\x00\x00\x00"+packed, movie.Movie{Packed: true, Version: 1, Rate: 1, Frames: 2})
	}
	// A packed one of nothing ends ahead of Size.
	expectNotDecoded(t, "CWS\x01\x08\x00\x00\x00"+closed(""), api.ErrShort)
}

// P13.3: inner bytes that end at each place are ErrShort.
func TestDecodeOfInnerBytesThatEnd(t *testing.T) {
	for _, m := range []movie.Movie{{}, with(show), wholeMovie(false), with(whole(39)), {Size: api.Rect{Left: -1 << 20, Right: 1 << 20}}} {
		inner := wordsInner(m)
		for n := range len(inner) {
			expectInner(t, inner[:n], api.ErrShort)
		}
	}
}

// P13.3: layer 7's errors of Size, told ahead of all that stands behind.
func TestDecodeOfSize(t *testing.T) {
	for _, c := range []struct {
		size string
		e    api.Errno
	}{
		{ofDigits("00010" + "01" + "00" + "00" + "00"), api.ErrField},
		{ofDigits("00010" + "00" + "00" + "01" + "00"), api.ErrField},
		{ofDigits("10110" + strings.Repeat("0", 22) + "0100000000000000000001" + strings.Repeat("0", 44)), api.ErrField},
		{"\xf8\x00\x00", api.ErrShort},
		{"", api.ErrShort},
	} {
		for _, behind := range []string{"", "\x01", "\x01\x00\x02\x00", "\x01\x00\x02\x00\x00\x00", "\x01\x00\x02\x00\x01\x00x"} {
			want := c.e
			if want == api.ErrShort && behind != "" {
				continue
			}
			expectInner(t, c.size+behind, want)
		}
	}
	// A width that is greater than it must be.
	expectDecoded(t, file(false, 0, ofDigits("00100"+"0000"+"0001"+"0000"+"0001")+"\x01\x00\x02\x00\x00\x00"), movie.Movie{Size: api.Rect{Right: 1, Bottom: 1}, Rate: 1, Frames: 2})
}

// P13.3: layer 12's errors of the list, ahead of any tag's; what stands behind it is ErrField, ahead of any tag's too.
func TestDecodeOfLists(t *testing.T) {
	shows := func(count int) string { return strings.Repeat("\x40\x00", count) }
	for _, c := range []struct {
		list string
		e    api.Errno
	}{
		{"", api.ErrShort},
		{"\x00", api.ErrShort},
		{"\x40\x00", api.ErrShort},
		{"\x42\x00x", api.ErrShort},
		{"\x7f\x08\x09\x00\x00", api.ErrShort},
		{"\x01\x00x\x00\x00", api.ErrField},
		{"\x40\x00\x01\x00x\x00\x00", api.ErrField},
		{shows(257), api.ErrLimit},
		{shows(257) + "\x00\x00", api.ErrLimit},
		{shows(256), api.ErrShort},
		// Tags ahead that are bad are told behind all errors of the list.
		{"\x80\x00", api.ErrShort},
		{"\x41\x00x", api.ErrShort},
		{"\x01\x07\x01\x01\x00x", api.ErrField},
		{"\x01\x07\x01" + shows(256), api.ErrLimit},
		{"\x80\x00" + shows(256), api.ErrLimit},
		// And behind what stands behind the list.
		{"\x00\x00\x00", api.ErrField},
		{"\x00\x00behind", api.ErrField},
		{"\x40\x00\x00\x00\x00\x00", api.ErrField},
		{"\x01\x07\x01\x00\x00\x00", api.ErrField},
		{shows(256) + "\x00\x00\x00", api.ErrField},
	} {
		expectInner(t, head+c.list, c.e)
	}
	for _, count := range []int{0, 1, 255, 256} {
		want := movie.Movie{Rate: 1, Frames: 2, Tags: slices.Repeat([]movie.Tag{show}, count)}
		expectDecoded(t, file(false, 0, head+shows(count)+"\x00\x00"), want)
		// The end, and each tag, may be told in four bytes too.
		expectDecoded(t, file(false, 0, head+strings.Repeat("\x7f\x00\x00\x00\x00\x00", count)+"\x3f\x00\x00\x00\x00\x00"), want)
	}
}

// P13.3: of errors in several tags the first one's is told.
func TestDecodeOfTags(t *testing.T) {
	pixels := wordsBody(whole(36))
	sum := pixels[:len(pixels)-1] + string([]byte{pixels[len(pixels)-1] ^ 1})
	bad := []struct {
		r tag.Raw
		e api.Errno
	}{
		{tag.Raw{Code: 2}, api.ErrField},
		{tag.Raw{Code: 28, Body: "\x01"}, api.ErrShort},
		{tag.Raw{Code: 28, Body: "\x00\x00"}, api.ErrField},
		{tag.Raw{Code: 1, Body: "x"}, api.ErrField},
		{tag.Raw{Code: 9, Body: "ab"}, api.ErrShort},
		{tag.Raw{Code: 32, Body: "\x01\x00\x00\x10"}, api.ErrLimit},
		{tag.Raw{Code: 36, Body: sum}, api.ErrSum},
		{tag.Raw{Code: 36, Body: pixels[:9] + tooManyCodes}, api.ErrCode},
		{tag.Raw{Code: 39, Body: ofSprite(raws(tag.Raw{Code: 9}))}, api.ErrField},
		{tag.Raw{Code: 39, Body: ofSprite(raws(tag.Raw{Code: 28}))}, api.ErrShort},
		{tag.Raw{Code: 26, Body: "\x00\x01\x00"}, api.ErrField},
		{tag.Raw{Code: 46, Body: "\x00"}, api.ErrShort},
		{tag.Raw{Code: 1023, Body: "abc"}, api.ErrField},
	}
	good := tag.Raw{Code: 1}
	for _, a := range bad {
		expectInner(t, head+raws(a.r), a.e)
		expectInner(t, head+raws(good, a.r, good), a.e)
		expectInner(t, head+raws(append(slices.Repeat([]tag.Raw{good}, 255), a.r)...), a.e)
		for _, b := range bad {
			expectInner(t, head+raws(a.r, b.r), a.e)
			expectInner(t, head+raws(good, a.r, good, b.r), a.e)
		}
	}
}

// P13.4: what is encoded is decoded.
func TestAnyMovies(t *testing.T) {
	t.Parallel()
	d := dice(7)
	for range 700 {
		count := d.roll(6)
		if d.roll(50) == 0 {
			count = 200 + d.roll(57)
		}
		m := d.movie(count)
		if !wordsRight(m) {
			t.Fatalf("%s is not right", said(m))
		}
		expectMovie(t, m, wordsEncode(m))
	}
}

// P13.3, P13.4, P1: any bytes are as the words say.
func TestAnyBytes(t *testing.T) {
	d := dice(8)
	told := map[api.Errno]int{}
	for range 12000 {
		s := d.bytes(d.roll(30), []int{2, 3, 6, 66, 256}[d.roll(5)])
		switch d.roll(4) {
		case 0:
			s = file(false, d.upTo(255), s)
		case 1:
			s = file(true, d.upTo(255), head+s)
		case 2:
			body := d.bytes(d.roll(6), 3)
			s = file(d.roll(2) > 0, d.upTo(255), head+raws(tag.Raw{Code: []int{1, 9, 26, 28}[d.roll(4)], Body: body}))
		case 3:
			s = []string{"FWS", "CWS", "XWS"}[d.roll(3)] + s
		}
		told[expectDecodedAsTheWordsSay(t, s)]++
	}
	if told[api.OK] < 300 || told[api.ErrShort] < 1000 || told[api.ErrField] < 1000 {
		t.Errorf("too few of a kind: %v", told)
	}
}

// P13.3, P13.4: files, inner bytes, and tags with bytes turned, left away or put in are as the words say; what is decoded, and encoded, is decoded to the same.
func TestMuddledMovies(t *testing.T) {
	t.Parallel()
	d := dice(9)
	told := map[api.Errno]int{}
	for range 9000 {
		m := d.movie(d.roll(5))
		var s string
		switch d.roll(3) {
		case 0:
			s = d.muddled(wordsEncode(m))
		case 1:
			s = file(m.Packed, m.Version, d.muddled(wordsInner(m)))
		default:
			var l []tag.Raw
			for _, x := range m.Tags {
				l = append(l, tag.Raw{Code: x.Kind, Body: d.muddled(wordsBody(x))})
			}
			s = file(m.Packed, m.Version, head+raws(l...))
		}
		told[expectDecodedAsTheWordsSay(t, s)]++
	}
	for _, e := range []api.Errno{api.OK, api.ErrShort, api.ErrField, api.ErrSum, api.ErrLimit} {
		if told[e] < 50 {
			t.Errorf("too few of a kind: %v", told)
		}
	}
}

// P13.4: what is decoded may have more bytes than a movie has, when it is encoded: then it is not right, but each of its tags is.
func TestDecodedIsTooGreat(t *testing.T) {
	t.Parallel()
	// Bitmaps of the format 3 with all sorts of pixels are longer ones of the format 5.
	d := dice(10)
	var colors, pixels []byte
	for range 256 {
		colors = append(colors, byte(d.roll(256)), byte(d.roll(256)), byte(d.roll(256)), 255)
	}
	for range 64 * 64 {
		pixels = append(pixels, byte(d.roll(256)))
	}
	body := "\x01\x00\x03\x40\x00\x40\x00\xff" + closed(string(colors)+string(pixels))
	var l []tag.Raw
	for range (1<<18 - 100) / (len(body) + 6) {
		l = append(l, tag.Raw{Code: 36, Body: body})
	}
	s := file(false, 6, head+raws(l...))
	m, e := movie.Decode(s)
	if e != api.OK || len(m.Tags) != len(l) {
		t.Fatalf("Decode = %d tags, %d", len(m.Tags), e)
	}
	if len(wordsInner(m)) <= room {
		t.Fatalf("just %d bytes", len(wordsInner(m)))
	}
	expectNoMovie(t, m)
	for _, x := range m.Tags[:2] {
		expectTag(t, x, wordsBody(x))
	}
	m.Tags = m.Tags[:3]
	expectMovie(t, m, wordsEncode(m))
}
