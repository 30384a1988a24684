package movie_test

import (
	"fmt"
	"reflect"
	"slices"
	"strings"
	"testing"

	"celluloid/api"
	"celluloid/morph"
	"celluloid/movie"
	"celluloid/pixel"
	"celluloid/shape"
	"celluloid/tag"
)

var (
	red   = api.RGBA{R: 255, A: 255}
	even  = api.Matrix{A: 65536, D: 65536}
	plain = api.Cx{Mul: [4]int{256, 256, 256, 256}}
	show  = movie.Tag{Kind: 1}
)

func remove(depth int) movie.Tag { return movie.Tag{Kind: 28, Depth: depth} }

func back(r int, g int, b int) movie.Tag {
	return movie.Tag{Kind: 9, Color: api.RGBA{R: r, G: g, B: b, A: 255}}
}

func place(p movie.Place) movie.Tag { return movie.Tag{Kind: 26, Place: p} }

func sprite(id int, frames int, l ...movie.Tag) movie.Tag {
	return movie.Tag{Kind: 39, Sprite: movie.Sprite{ID: id, Frames: frames, Tags: l}}
}

// placed is a place of all that Flags tell, and of nothing else.
func placed(flags int) movie.Place {
	p := movie.Place{Flags: flags, Depth: 258 - 3}
	if flags&2 > 0 {
		p.ID = 0x1234
	}
	if flags&4 > 0 {
		p.Matrix = api.Matrix{A: 70000, B: -5, C: 6, D: 65536, X: -1 << 20, Y: 3}
	}
	if flags&8 > 0 {
		p.Cx = api.Cx{Mul: [4]int{256, -512, 0, 512}, Add: [4]int{1, -255, 255, 0}}
	}
	if flags&16 > 0 {
		p.Ratio = 0xfedc
	}
	if flags&64 > 0 {
		p.Clip = 254
	}
	return p
}

// whole is a right tag of a Kind, made anew each time, with something in all its parts.
func whole(kind int) movie.Tag {
	switch kind {
	case 9:
		return back(1, 0, 255)
	case 26:
		return place(placed(95))
	case 28:
		return remove(7)
	case 32:
		return movie.Tag{Kind: 32, Shape: shape.Shape{
			ID:      513,
			Bounds:  api.Rect{Left: -5, Right: 200, Bottom: 300},
			Fills:   []api.Fill{{Color: red}, {Kind: 64, Matrix: even, ID: 9}},
			Strokes: []api.Stroke{{Width: 20, Color: red}},
			Records: []api.Record{{Kind: 2, Left: -1, Right: 2, Line: 1}, {Kind: 4, X: 50, Y: -6}, {Kind: 3, Fills: []api.Fill{{Color: red}}}, {Kind: 5, CX: 1, CY: 2, X: 3, Y: 400}},
		}}
	case 36:
		return movie.Tag{Kind: 36, Bitmap: pixel.Bitmap{ID: 7, W: 2, H: 1, Pixels: []api.RGBA{red, {G: 3, A: 4}}}}
	case 39:
		return sprite(0x0201, 0x0403, whole(26), show, remove(9))
	case 46:
		return movie.Tag{Kind: 46, Morph: morph.Morph{
			ID:    3,
			From:  api.Rect{Right: 100, Bottom: 100},
			To:    api.Rect{Left: -7, Right: 200, Top: 5, Bottom: 50},
			Fills: []api.Fill{{Color: red}}, ToFills: []api.Fill{{}},
			Strokes: []api.Stroke{{Width: 1}}, ToStrokes: []api.Stroke{{Width: 2}},
			Records: []api.Record{{Kind: 2, Left: 1, Right: -1, Line: -1}, {Kind: 4, X: 7, Y: -3}},
			Target:  []api.Record{{Kind: 5, CX: 5, CY: 1, X: 5, Y: 2}},
		}}
	}
	return movie.Tag{Kind: kind}
}

// wholeMovie is a right one with a tag of each Kind, made anew each time.
func wholeMovie(packed bool) movie.Movie {
	m := movie.Movie{Packed: packed, Version: 6, Rate: 0x0c80, Frames: 0x0102, Size: api.Rect{Left: -20, Right: 400, Bottom: 300}}
	for _, kind := range kinds {
		m.Tags = append(m.Tags, whole(kind))
	}
	return m
}

// with is a movie of tags, and of nothing else.
func with(l ...movie.Tag) movie.Movie { return movie.Movie{Tags: l} }

// copied is what shares nothing with v.
func copied[T any](v T) T {
	return copiedValue(reflect.ValueOf(v)).Interface().(T)
}

func copiedValue(v reflect.Value) reflect.Value {
	c := reflect.New(v.Type()).Elem()
	c.Set(v)
	switch v.Kind() {
	case reflect.Slice:
		if !v.IsNil() {
			c.Set(reflect.MakeSlice(v.Type(), v.Len(), v.Len()))
		}
		for i := range v.Len() {
			c.Index(i).Set(copiedValue(v.Index(i)))
		}
	case reflect.Struct:
		for i := range v.NumField() {
			c.Field(i).Set(copiedValue(v.Field(i)))
		}
	}
	return c
}

// leaves are all numbers and lists of what p points to, but those within lists, with their names.
func leaves(p any, visit func(name string, v reflect.Value)) {
	leavesOf("", reflect.ValueOf(p).Elem(), visit)
}

func leavesOf(name string, v reflect.Value, visit func(string, reflect.Value)) {
	switch v.Kind() {
	case reflect.Struct:
		for i := range v.NumField() {
			leavesOf(name+"."+v.Type().Field(i).Name, v.Field(i), visit)
		}
	case reflect.Array:
		for i := range v.Len() {
			leavesOf(fmt.Sprint(name, ".", i), v.Index(i), visit)
		}
	default:
		visit(name, v)
	}
}

// said is what stands in a remark of a test: not all of a long text.
func said(v any) string {
	s := fmt.Sprintf("%+v", v)
	if _, is := v.(string); is {
		s = fmt.Sprintf("%q", v)
	}
	if len(s) > 300 {
		return s[:150] + ".." + s[len(s)-150:]
	}
	return s
}

// expectTag holds a tag to its body, to staying as it was, and its body to being taken as it.
func expectTag(t *testing.T, x movie.Tag, want string) {
	t.Helper()
	was := copied(x)
	if !movie.RightTag(x) {
		t.Errorf("%s is not right", said(x))
	}
	if r, e := movie.PutTag(x); r.Code != x.Kind || r.Body != want || e != api.OK {
		t.Errorf("PutTag of %s = %d, %s, %d, want %s", said(x), r.Code, said(r.Body), e, said(want))
	}
	if !reflect.DeepEqual(x, was) {
		t.Errorf("PutTag has turned %s into %s", said(was), said(x))
	}
	expectTaken(t, tag.Raw{Code: x.Kind, Body: want}, x)
}

// expectNoTag holds a tag to being none, alone and wherever one may stand, with nothing beside the error.
func expectNoTag(t *testing.T, x movie.Tag) {
	t.Helper()
	was := copied(x)
	if movie.RightTag(x) {
		t.Errorf("%s is right", said(x))
	}
	if r, e := movie.PutTag(x); r != (tag.Raw{}) || e != api.ErrArg {
		t.Errorf("PutTag of %s = %d, %s, %d, want ErrArg", said(x), r.Code, said(r.Body), e)
	}
	if movie.RightTag(sprite(1, 1, x)) || movie.RightTag(sprite(1, 1, show, x, show)) {
		t.Errorf("a sprite with %s is right", said(x))
	}
	expectNoMovie(t, with(x))
	expectNoMovie(t, with(show, show, x))
	expectNoMovie(t, with(x, show))
	if !reflect.DeepEqual(x, was) {
		t.Errorf("%s has become %s", said(was), said(x))
	}
}

// expectAsTheWordsSay holds RightTag and PutTag to the words, and tells whether it is right.
func expectAsTheWordsSay(t *testing.T, x movie.Tag) bool {
	t.Helper()
	if !wordsRightTag(x) {
		expectNoTag(t, x)
		return false
	}
	expectTag(t, x, wordsBody(x))
	return true
}

// expectMovie holds a movie to its bytes, to staying as it was, and its bytes to being decoded as it.
func expectMovie(t *testing.T, m movie.Movie, want string) {
	t.Helper()
	was := copied(m)
	if !movie.Right(m) {
		t.Errorf("%s is not right", said(m))
	}
	if s, e := movie.Encode(m); s != want || e != api.OK {
		t.Errorf("Encode of %s = %s, %d, want %s", said(m), said(s), e, said(want))
	}
	if !reflect.DeepEqual(m, was) {
		t.Errorf("Encode has turned %s into %s", said(was), said(m))
	}
	expectDecoded(t, want, m)
}

// expectNoMovie holds a movie to being none, packed or not, with nothing beside the error.
func expectNoMovie(t *testing.T, m movie.Movie) {
	t.Helper()
	was := copied(m)
	for _, packed := range []bool{false, true} {
		m.Packed = packed
		if movie.Right(m) {
			t.Errorf("%s is right", said(m))
		}
		if s, e := movie.Encode(m); s != "" || e != api.ErrArg {
			t.Errorf("Encode of %s = %s, %d, want ErrArg", said(m), said(s), e)
		}
	}
	m.Packed = was.Packed
	if !reflect.DeepEqual(m, was) {
		t.Errorf("%s has become %s", said(was), said(m))
	}
}

// expectMovieAsTheWordsSay holds Right and Encode to the words, packed or not, and tells whether it is right.
func expectMovieAsTheWordsSay(t *testing.T, m movie.Movie) bool {
	t.Helper()
	if !wordsRight(m) {
		expectNoMovie(t, m)
		return false
	}
	for _, packed := range []bool{false, true} {
		m.Packed = packed
		expectMovie(t, m, wordsEncode(m))
	}
	return true
}

// edges are numbers at which one that may be told begins or ends, with those beside them.
func edges() []int {
	var l []int
	for _, v := range []int{0, 64, 127, 255, 256, 512, 65535, 65536, 1 << 20, 1 << 22, 1 << 24, 1 << 31, 1 << 32, 1<<32 + 255, 1 << 62} {
		l = append(l, v-1, v, v+1, -v-1, -v, -v+1)
	}
	l = append(l, least, least+1, most-1, most)
	slices.Sort(l)
	return slices.Compact(l)
}

// P13.1, P13.2: a body by hand of each Kind.
func TestTagsByHand(t *testing.T) {
	pixels, e := pixel.Put(pixel.Bitmap{ID: 7, W: 1, H: 1, Pixels: []api.RGBA{red}})
	if e != api.OK || len(pixels) < 8 {
		t.Fatal("no bytes of a bitmap")
	}
	for _, c := range []struct {
		x    movie.Tag
		want string
	}{
		{show, ""},
		{back(1, 2, 3), "\x01\x02\x03"},
		{back(0, 0, 0), "\x00\x00\x00"},
		{back(255, 128, 0), "\xff\x80\x00"},
		{remove(1), "\x01\x00"},
		{remove(255), "\xff\x00"},
		{place(movie.Place{Flags: 1, Depth: 5}), "\x01\x05\x00"},
		{place(movie.Place{Flags: 2, Depth: 1, ID: 0x0201}), "\x02\x01\x00\x01\x02"},
		{place(movie.Place{Flags: 2, Depth: 1}), "\x02\x01\x00\x00\x00"},
		{place(movie.Place{Flags: 3, Depth: 255, ID: 65535}), "\x03\xff\x00\xff\xff"},
		{place(movie.Place{Flags: 5, Depth: 2, Matrix: even}), "\x05\x02\x00\x00"},
		{place(movie.Place{Flags: 9, Depth: 2, Cx: plain}), "\x09\x02\x00\x00"},
		{place(movie.Place{Flags: 17, Depth: 2, Ratio: 0x0201}), "\x11\x02\x00\x01\x02"},
		{place(movie.Place{Flags: 65, Depth: 2, Clip: 3}), "\x41\x02\x00\x03\x00"},
		{place(movie.Place{Flags: 95, Depth: 255, ID: 0x1234, Matrix: even, Cx: plain, Ratio: 9, Clip: 7}), "\x5f\xff\x00\x34\x12\x00\x00\x09\x00\x07\x00"},
		{movie.Tag{Kind: 32}, "\x00\x00\x00\x00\x00\x00\x00"},
		{movie.Tag{Kind: 32, Shape: shape.Shape{ID: 513, Fills: []api.Fill{{Color: red}}}}, "\x01\x02\x00\x01\x00\xff\x00\x00\xff\x00\x10\x00"},
		{movie.Tag{Kind: 46}, "\x00\x00\x00\x00\x04\x00\x00\x00\x00\x00\x00\x00\x00\x00"},
		{movie.Tag{Kind: 36, Bitmap: pixel.Bitmap{ID: 7, W: 1, H: 1, Pixels: []api.RGBA{red}}}, pixels},
		{sprite(0, 0), "\x00\x00\x00\x00\x00\x00"},
		{sprite(0x0201, 0x0403), "\x01\x02\x03\x04\x00\x00"},
		{sprite(65535, 65534, show), "\xff\xff\xfe\xff\x40\x00\x00\x00"},
		{sprite(2, 1, place(movie.Place{Flags: 2, Depth: 1, ID: 3}), show, remove(1), show), "\x02\x00\x01\x00\x85\x06\x02\x01\x00\x03\x00\x40\x00\x02\x07\x01\x00\x40\x00\x00\x00"},
	} {
		expectTag(t, c.x, c.want)
		if w := wordsBody(c.x); w != c.want {
			t.Errorf("the words say %s, want %s", said(w), said(c.want))
		}
	}
}

// P13.1, P13.3: the chapter's example, and others by hand.
func TestMoviesByHand(t *testing.T) {
	head := "FWS\x06\x19\x00\x00\x00"
	for _, c := range []struct {
		m    movie.Movie
		want string
	}{
		{movie.Movie{}, "FWS\x00\x0f\x00\x00\x00\x00\x00\x00\x00\x00\x00\x00"},
		{with(show), "FWS\x00\x11\x00\x00\x00\x00\x00\x00\x00\x00\x40\x00\x00\x00"},
		{movie.Movie{Version: 255, Rate: 0x0201, Frames: 0x0403, Size: api.Rect{Right: 1, Bottom: 1}}, "FWS\xff\x10\x00\x00\x00\x10\x88\x01\x02\x03\x04\x00\x00"},
		{movie.Movie{Version: 6, Rate: 256, Frames: 1, Tags: []movie.Tag{back(1, 2, 3), show, show, {Kind: 28, Depth: 9}}[:3]}, head[:4] + "\x18\x00\x00\x00\x00\x00\x01\x01\x00\x43\x02\x01\x02\x03\x40\x00\x40\x00\x00\x00"},
		{movie.Movie{Packed: true}, "CWS\x00\x0f\x00\x00\x00" + closed("\x00\x00\x00\x00\x00\x00\x00")},
		{movie.Movie{Packed: true, Version: 9, Tags: []movie.Tag{remove(2)}}, "CWS\x09\x13\x00\x00\x00" + closed("\x00\x00\x00\x00\x00\x02\x07\x02\x00\x00\x00")},
	} {
		expectMovie(t, c.m, c.want)
		if w := wordsEncode(c.m); w != c.want {
			t.Errorf("the words say %s, want %s", said(w), said(c.want))
		}
	}
}

// P13.1: a tag of each Kind is right, alone and within a movie.
func TestEachKind(t *testing.T) {
	for _, kind := range kinds {
		x := whole(kind)
		if !expectAsTheWordsSay(t, x) {
			t.Errorf("the words say that %s is not right", said(x))
		}
		if !expectMovieAsTheWordsSay(t, with(x)) || !expectMovieAsTheWordsSay(t, with(x, show, whole(kind))) {
			t.Errorf("the words say that a movie with %s is not right", said(x))
		}
	}
	expectMovieAsTheWordsSay(t, wholeMovie(false))
}

// P13.1: a Kind that is none has no tag, whatever else it has.
func TestKindsThatAreNone(t *testing.T) {
	no := []int{least, least + 1, -1 << 32, -256, -39, -9, -1, 1<<16 + 1, 1<<32 + 1, 1<<32 + 9, 1<<32 + 26, most - 1, most}
	for kind := range 1100 {
		if !slices.Contains(kinds, kind) {
			no = append(no, kind)
		}
	}
	for _, kind := range no {
		expectNoTag(t, movie.Tag{Kind: kind})
		for _, of := range kinds[1:] {
			x := whole(of)
			x.Kind = kind
			if movie.RightTag(x) {
				t.Errorf("%s is right", said(x))
			}
			if r, e := movie.PutTag(x); r != (tag.Raw{}) || e != api.ErrArg {
				t.Errorf("PutTag of %s = %s, %d", said(x), said(r), e)
			}
		}
	}
}

// P13.1: what one Kind has is too much for each other one, and too little of it too.
func TestKindsExchanged(t *testing.T) {
	for _, of := range kinds {
		for _, kind := range kinds {
			x := whole(of)
			x.Kind = kind
			// A Show has nothing, and so has a shape, a morph or a sprite with nothing but 0 in it.
			empty := of == 1 && (kind == 32 || kind == 39 || kind == 46)
			if right := expectAsTheWordsSay(t, x); right != (of == kind || empty) {
				t.Errorf("the words say %t of %s", right, said(x))
			}
		}
	}
}

// P13.1: each number that a Kind has not is 0, and each list is none, nil or empty.
func TestEachOtherPart(t *testing.T) {
	for _, kind := range kinds {
		own, _ := part(kind)
		count := 0
		x := whole(kind)
		leaves(&x, func(name string, v reflect.Value) {
			if name == ".Kind" || strings.HasPrefix(name+".", "."+own+".") {
				return
			}
			count++
			if v.Kind() == reflect.Slice {
				v.Set(reflect.MakeSlice(v.Type(), 1, 1))
				expectNoTag(t, x)
				v.Set(reflect.MakeSlice(v.Type(), 0, 1))
				expectTag(t, x, wordsBody(whole(kind)))
				v.SetZero()
				return
			}
			for _, n := range []int{1, -1, 256, least} {
				v.SetInt(int64(n))
				expectNoTag(t, x)
			}
			v.SetZero()
		})
		if count < 30 {
			t.Errorf("%d other parts of the Kind %d", count, kind)
		}
		if !reflect.DeepEqual(x, whole(kind)) {
			t.Errorf("%s is not as it was", said(x))
		}
	}
}

// P13.1: of a movie's list that is empty, and of a sprite's, there are no tags, as of one that is nil.
func TestEmptyLists(t *testing.T) {
	expectMovie(t, movie.Movie{Tags: []movie.Tag{}}, "FWS\x00\x0f\x00\x00\x00\x00\x00\x00\x00\x00\x00\x00")
	x := sprite(1, 2)
	x.Sprite.Tags = []movie.Tag{}
	expectTag(t, x, "\x01\x00\x02\x00\x00\x00")
}

// P13.1: each sum of Flags, and those with other bits; what is told of each.
func TestEachSumOfFlags(t *testing.T) {
	right := 0
	for flags := -520; flags < 1100; flags++ {
		if expectAsTheWordsSay(t, place(placed(flags))) {
			right++
		}
	}
	if right != 48 {
		t.Errorf("%d sums of Flags are right, want 48", right)
	}
	for _, bit := range []int{32, 128, 256, 1 << 16, 1 << 32, 1 << 62, least} {
		for _, flags := range []int{1, 2, 3, 95} {
			p := placed(flags)
			p.Flags |= bit
			expectNoTag(t, place(p))
		}
	}
	for _, flags := range []int{0, 4, 8, 16, 64, 92} {
		expectNoTag(t, place(placed(flags)))
	}
}

// P13.1: what Flags do not tell is 0 in all parts.
func TestWhatIsNotTold(t *testing.T) {
	for flags := range 96 {
		if flags%4 == 0 || flags/32%2 == 1 {
			continue
		}
		p := placed(flags)
		leaves(&p, func(name string, v reflect.Value) {
			told := false
			for bit, part := range map[int]string{2: ".ID", 4: ".Matrix.", 8: ".Cx.", 16: ".Ratio", 64: ".Clip"} {
				told = told || flags/bit%2 == 1 && strings.HasPrefix(name, part)
			}
			if told || name == ".Flags" || name == ".Depth" {
				return
			}
			for _, n := range []int{1, -1, 255, 65536, least} {
				v.SetInt(int64(n))
				expectNoTag(t, place(p))
			}
			v.SetZero()
		})
		expectTag(t, place(p), wordsBody(place(placed(flags))))
	}
}

// P13.1: each number of a place at each edge, and beyond.
func TestEdgesOfPlaces(t *testing.T) {
	told := map[bool]int{}
	for _, flags := range []int{95, 66, 1} {
		p := placed(flags)
		leaves(&p, func(_ string, v reflect.Value) {
			was := v.Int()
			for _, n := range edges() {
				v.SetInt(int64(n))
				told[expectAsTheWordsSay(t, place(p))]++
			}
			v.SetInt(was)
		})
	}
	if told[true] < 400 || told[false] < 1000 {
		t.Errorf("too few of a kind: %v", told)
	}
	// By hand: which are the last ones that are right.
	for _, c := range []struct {
		p     movie.Place
		right bool
	}{
		{movie.Place{Flags: 1, Depth: 0}, false},
		{movie.Place{Flags: 1, Depth: 1}, true},
		{movie.Place{Flags: 1, Depth: 255}, true},
		{movie.Place{Flags: 1, Depth: 256}, false},
		{movie.Place{Flags: 2, Depth: 1, ID: -1}, false},
		{movie.Place{Flags: 2, Depth: 1, ID: 0}, true},
		{movie.Place{Flags: 2, Depth: 1, ID: 65535}, true},
		{movie.Place{Flags: 2, Depth: 1, ID: 65536}, false},
		{movie.Place{Flags: 17, Depth: 1, Ratio: -1}, false},
		{movie.Place{Flags: 17, Depth: 1, Ratio: 0}, true},
		{movie.Place{Flags: 17, Depth: 1, Ratio: 65535}, true},
		{movie.Place{Flags: 17, Depth: 1, Ratio: 65536}, false},
		{movie.Place{Flags: 65, Depth: 1, Clip: 0}, false},
		{movie.Place{Flags: 65, Depth: 1, Clip: 1}, true},
		{movie.Place{Flags: 65, Depth: 1, Clip: 255}, true},
		{movie.Place{Flags: 65, Depth: 1, Clip: 256}, false},
		{movie.Place{Flags: 5, Depth: 1}, true},
		{movie.Place{Flags: 5, Depth: 1, Matrix: api.Matrix{A: 1 << 22}}, true},
		{movie.Place{Flags: 5, Depth: 1, Matrix: api.Matrix{A: 1<<22 + 1}}, false},
		{movie.Place{Flags: 5, Depth: 1, Matrix: api.Matrix{Y: 1<<20 + 1}}, false},
		{movie.Place{Flags: 9, Depth: 1}, true},
		{movie.Place{Flags: 9, Depth: 1, Cx: api.Cx{Mul: [4]int{512}}}, true},
		{movie.Place{Flags: 9, Depth: 1, Cx: api.Cx{Mul: [4]int{513}}}, false},
		{movie.Place{Flags: 9, Depth: 1, Cx: api.Cx{Add: [4]int{3: 256}}}, false},
	} {
		if expectAsTheWordsSay(t, place(c.p)) != c.right {
			t.Errorf("the words say %t of %+v", !c.right, c.p)
		}
	}
}

// P13.1: the Depth of a Remove is from 1 to 255.
func TestEdgesOfRemove(t *testing.T) {
	for _, depth := range edges() {
		if right := expectAsTheWordsSay(t, remove(depth)); right != (depth >= 1 && depth <= 255) {
			t.Errorf("the words say %t of the Depth %d", right, depth)
		}
	}
	for depth := 1; depth < 256; depth++ {
		expectTag(t, remove(depth), string([]byte{byte(depth), 0}))
	}
}

// P13.1: the Color of a Back is right, and its A is 255.
func TestEdgesOfBack(t *testing.T) {
	for i := range 4 {
		for _, n := range edges() {
			x := back(1, 2, 3)
			*[]*int{&x.Color.R, &x.Color.G, &x.Color.B, &x.Color.A}[i] = n
			if right := expectAsTheWordsSay(t, x); right != (n >= 0 && n <= 255 && (i < 3 || n == 255)) {
				t.Errorf("the words say %t of %+v", right, x.Color)
			}
		}
	}
	for a := range 255 {
		expectNoTag(t, movie.Tag{Kind: 9, Color: api.RGBA{A: a}})
	}
	for v := range 256 {
		expectTag(t, back(v, 255-v, v/2), string([]byte{byte(v), byte(255 - v), byte(v / 2)}))
	}
}

// P13.1: shapes, morphs and bitmaps that are not right as their layers say.
func TestPartsOfLayersBelow(t *testing.T) {
	told := map[bool]int{}
	for _, kind := range []int{32, 36, 46} {
		own, _ := part(kind)
		x := whole(kind)
		leaves(&x, func(name string, v reflect.Value) {
			if !strings.HasPrefix(name, "."+own+".") {
				return
			}
			was := v.Interface()
			if v.Kind() == reflect.Slice {
				for _, n := range []int{0, 1, 2, 15, 16, 512, 513} {
					v.Set(reflect.MakeSlice(v.Type(), n, n))
					told[expectAsTheWordsSay(t, x)]++
				}
			} else {
				for _, n := range edges() {
					v.SetInt(int64(n))
					told[expectAsTheWordsSay(t, x)]++
				}
			}
			v.Set(reflect.ValueOf(was))
		})
	}
	if told[true] < 100 || told[false] < 500 {
		t.Errorf("too few of a kind: %v", told)
	}
}

// P13.1: the numbers of a sprite from 0 to 65,535.
func TestEdgesOfSprites(t *testing.T) {
	for _, n := range edges() {
		right := n >= 0 && n <= 65535
		if expectAsTheWordsSay(t, sprite(n, 1, show)) != right || expectAsTheWordsSay(t, sprite(1, n, show)) != right {
			t.Errorf("the words say %t of a sprite with %d", !right, n)
		}
	}
}

// P13.1: a sprite has at most 256 tags.
func TestTagsOfASprite(t *testing.T) {
	for _, count := range []int{0, 1, 2, 255, 256} {
		expectTag(t, sprite(1, 2, slices.Repeat([]movie.Tag{show}, count)...), "\x01\x00\x02\x00"+strings.Repeat("\x40\x00", count)+"\x00\x00")
		expectTag(t, sprite(1, 2, slices.Repeat([]movie.Tag{remove(5)}, count)...), "\x01\x00\x02\x00"+strings.Repeat("\x02\x07\x05\x00", count)+"\x00\x00")
	}
	for _, count := range []int{257, 258, 512, 513, 1000} {
		expectNoTag(t, sprite(1, 2, slices.Repeat([]movie.Tag{show}, count)...))
	}
	// As great as a sprite may be.
	x := sprite(65535, 65535, slices.Repeat([]movie.Tag{place(placed(95))}, 256)...)
	expectTag(t, x, wordsBody(x))
}

// P13.1: all tags of a sprite are right steps, wherever they stand.
func TestTagsOfASpriteThatAreNoSteps(t *testing.T) {
	t.Parallel()
	var bad []movie.Tag
	for _, kind := range []int{9, 32, 36, 39, 46} {
		bad = append(bad, whole(kind), movie.Tag{Kind: kind})
	}
	bad = append(bad, sprite(1, 1, show), sprite(0, 0), movie.Tag{Kind: 0}, movie.Tag{Kind: 2}, movie.Tag{Kind: 27}, movie.Tag{Kind: -1},
		remove(0), remove(256), place(movie.Place{}), place(movie.Place{Flags: 1}), place(movie.Place{Flags: 32 + 1, Depth: 1}),
		movie.Tag{Kind: 1, Depth: 1}, movie.Tag{Kind: 28, Depth: 1, Color: red}, movie.Tag{Kind: 26, Depth: 1, Place: placed(1)})
	for _, x := range bad {
		for _, count := range []int{0, 1, 5, 255} {
			for _, at := range []int{0, count / 2, count} {
				expectNoTag(t, sprite(1, 1, slices.Insert(slices.Repeat([]movie.Tag{show}, count), at, x)...))
			}
		}
	}
	// One that has the numbers of a sprite, and steps, in a tag that is no sprite.
	expectNoTag(t, movie.Tag{Kind: 1, Sprite: movie.Sprite{Tags: []movie.Tag{show}}})
}

// P1: sprites within sprites, however deep, are not right, and that is told.
func TestDeepSprites(t *testing.T) {
	x := sprite(1, 1, show)
	for range 1 << 16 {
		x = sprite(1, 1, x)
	}
	if movie.RightTag(x) || movie.Right(with(x)) {
		t.Error("a sprite of sprites is right")
	}
	if _, e := movie.PutTag(x); e != api.ErrArg {
		t.Errorf("PutTag = %d", e)
	}
	x.Kind = 1
	if movie.RightTag(x) {
		t.Error("a Show of sprites is right")
	}
}

// P13.1: the numbers of a movie at each edge, and beyond.
func TestEdgesOfMovies(t *testing.T) {
	for _, tags := range [][]movie.Tag{nil, {show, back(1, 2, 3)}} {
		for i, highest := range []int{255, 65535, 65535} {
			for _, n := range edges() {
				m := movie.Movie{Version: 1, Rate: 2, Frames: 3, Tags: tags}
				*[]*int{&m.Version, &m.Rate, &m.Frames}[i] = n
				if right := expectMovieAsTheWordsSay(t, m); right != (n >= 0 && n <= highest) {
					t.Errorf("the words say %t of %+v", right, m)
				}
			}
		}
	}
	for version := range 256 {
		expectMovieAsTheWordsSay(t, movie.Movie{Version: version, Rate: version * 257, Frames: 65535 - version})
	}
}

// P13.1: the Size of a movie is right.
func TestSize(t *testing.T) {
	told := map[bool]int{}
	m := wholeMovie(false)
	leaves(&m.Size, func(_ string, v reflect.Value) {
		was := v.Int()
		for _, n := range edges() {
			v.SetInt(int64(n))
			told[expectMovieAsTheWordsSay(t, m)]++
		}
		v.SetInt(was)
	})
	if told[true] < 20 || told[false] < 100 {
		t.Errorf("too few of a kind: %v", told)
	}
	expectNoMovie(t, movie.Movie{Size: api.Rect{Left: 1}})
	expectNoMovie(t, movie.Movie{Size: api.Rect{Top: 1}})
	expectNoMovie(t, movie.Movie{Size: api.Rect{Right: 1<<20 + 1}})
	expectMovieAsTheWordsSay(t, movie.Movie{Size: api.Rect{Left: -1 << 20, Right: 1 << 20, Top: -1 << 20, Bottom: 1 << 20}})
}

// P13.1: a movie has at most 256 tags.
func TestTagsOfAMovie(t *testing.T) {
	for _, count := range []int{0, 1, 2, 255, 256} {
		for _, x := range []movie.Tag{show, back(1, 2, 3), whole(39)} {
			if !expectMovieAsTheWordsSay(t, with(slices.Repeat([]movie.Tag{x}, count)...)) {
				t.Errorf("the words say that a movie with %d tags is not right", count)
			}
		}
	}
	for _, count := range []int{257, 258, 512, 513, 1000} {
		expectNoMovie(t, with(slices.Repeat([]movie.Tag{show}, count)...))
	}
	// Each tag counts, wherever it stands.
	for _, at := range []int{0, 1, 100, 254, 255} {
		l := slices.Repeat([]movie.Tag{show}, 256)
		l[at] = movie.Tag{Kind: 2}
		expectNoMovie(t, with(l...))
		l[at] = whole(26)
		expectMovieAsTheWordsSay(t, with(l...))
	}
	// What stands behind a list's end is none of its tags.
	l := slices.Repeat([]movie.Tag{show}, 300)
	l[2] = movie.Tag{Kind: 2}
	expectMovie(t, with(l[:2]...), "FWS\x00\x13\x00\x00\x00\x00\x00\x00\x00\x00\x40\x00\x40\x00\x00\x00")
}

// curves is a shape of so many, with numbers of 17 bits.
func curves(count int) movie.Tag {
	var l []api.Record
	for i := range count {
		l = append(l, api.Record{Kind: 5, CX: 65535, CY: -i, X: i * i % 60000, Y: -65536 + 7*i})
	}
	return movie.Tag{Kind: 32, Shape: shape.Shape{Records: l}}
}

// gradients is a shape of so many lists of new styles, that have the most bytes.
func gradients(count int) movie.Tag {
	stops := slices.Repeat([]api.Stop{{Ratio: 5, Color: red}}, 8)
	fills := slices.Repeat([]api.Fill{{Kind: 16, Matrix: api.Matrix{A: 1, B: 2, C: 3, D: 4, X: 5, Y: 6}, Stops: stops}}, 15)
	return movie.Tag{Kind: 32, Shape: shape.Shape{Records: slices.Repeat([]api.Record{{Kind: 3, Fills: fills}}, count)}}
}

// sized is a right movie with just so many inner bytes, at least 100; few tags have nearly all of them, and the last ones are at least two Shows.
func sized(t *testing.T, count int) movie.Movie {
	t.Helper()
	// The list's end, the Shows, and what the parity may ask for.
	const behind = 2 + 4 + 5
	m := movie.Movie{}
	left := count - len(wordsInner(m)) + 2
	put := func(x movie.Tag) {
		size := len(ok(tag.Put(tag.Raw{Code: x.Kind, Body: wordsBody(x)})))
		if left-size >= behind {
			m.Tags = append(m.Tags, x)
			left -= size
		}
	}
	one := len(wordsBody(gradients(2))) - len(wordsBody(gradients(1)))
	if n := left / one; n > 2 {
		put(gradients(n - 2))
	}
	for n := 512; n > 0 && left > 50; n /= 2 {
		put(curves(n))
	}
	if left%2 == 1 {
		m.Tags = append(m.Tags, back(1, 2, 3))
		left -= 5
	}
	for left > 2 {
		m.Tags = append(m.Tags, show)
		left -= 2
	}
	if n := len(wordsInner(m)); n != count || !wordsRightParts(m) {
		t.Fatalf("a movie with %d inner bytes, want %d", n, count)
	}
	return m
}

// P13.1, P13.3: inner bytes are at most 2^18, packed and not.
func TestInnerBytes(t *testing.T) {
	t.Parallel()
	for _, count := range []int{100, 101, 1<<18 - 1, 1 << 18} {
		m := sized(t, count)
		for _, packed := range []bool{false, true} {
			m.Packed = packed
			expectMovie(t, m, wordsEncode(m))
		}
	}
	for _, count := range []int{1<<18 + 1, 1<<18 + 2, 300000} {
		expectNoMovie(t, sized(t, count))
	}
	// Two Shows are 4 bytes, a Back is 5; Size may have more bytes too.
	m := sized(t, 1<<18)
	more := copied(m)
	more.Tags = append(more.Tags[:len(more.Tags)-2], back(1, 2, 3))
	expectNoMovie(t, more)
	more = copied(m)
	more.Size.Right = 1
	expectNoMovie(t, more)
	more.Tags = more.Tags[:len(more.Tags)-1]
	expectMovie(t, more, wordsEncode(more))
	more = copied(m)
	more.Tags = append(more.Tags, show)
	expectNoMovie(t, more)
}

// P13.1, P13.2: a tag may have more bytes than a movie.
func TestGreatTag(t *testing.T) {
	t.Parallel()
	x := gradients(512)
	body := wordsBody(x)
	if len(body) <= room {
		t.Fatalf("just %d bytes", len(body))
	}
	expectTag(t, x, body)
	expectNoMovie(t, with(x))
	// Of very many such tags it is told as well, and not too late.
	m := with(slices.Repeat([]movie.Tag{x}, 256)...)
	if s, e := movie.Encode(m); s != "" || e != api.ErrArg || movie.Right(m) {
		t.Errorf("Encode of 256 great tags = %s, %d", said(s), e)
	}
}
