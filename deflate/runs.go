package deflate

// What runs may be.
const (
	shortest = 3
	longest  = 258
	farthest = 1 << 15
)

// search looks for the run of a place; it is asked of rising distances, so that of several longest ones the nearest stays.
type search struct {
	s        string
	at       int
	most     int // bytes that a run may have here
	length   int // of the longest one so far: at first too short by one, so that only a run is longer
	distance int
}

func newSearch(s string, at int) search {
	return search{s: s, at: at, most: min(longest, len(s)-at), length: shortest - 1}
}

// done: whether none can be longer than what was found.
func (q *search) done() bool {
	return q.length >= q.most
}

// ask takes the bytes so far back for the run, if they are the longest yet; the search must not be done.
func (q *search) ask(distance int) {
	from := q.at - distance
	// Most places differ in the one byte that would make them longer, and need no further look.
	if q.s[from+q.length] != q.s[q.at+q.length] {
		return
	}
	n := 0
	for n < q.most && q.s[from+n] == q.s[q.at+n] {
		n++
	}
	if n > q.length {
		q.length, q.distance = n, distance
	}
}

func (q *search) found() (int, int) {
	if q.distance == 0 {
		return 0, 0
	}
	return q.length, q.distance
}

// none is the place of three bytes that did not stand earlier.
const none = -1

// behind keeps where three bytes stood: each three's last place in a map, and the one ahead of each place in a list.
type behind struct {
	s       string
	last    map[[shortest]byte]int
	earlier []int
}

func newBehind(s string) behind {
	return behind{s: s, last: map[[shortest]byte]int{}, earlier: make([]int, len(s))}
}

// three: the bytes at a place, and whether there are so many.
func (b *behind) three(at int) ([shortest]byte, bool) {
	if len(b.s)-at < shortest {
		return [shortest]byte{}, false
	}
	return [shortest]byte{b.s[at], b.s[at+1], b.s[at+2]}, true
}

// stood: where the three bytes of a place stood last.
func (b *behind) stood(at int) int {
	if key, ok := b.three(at); ok {
		if place, ok := b.last[key]; ok {
			return place
		}
	}
	return none
}

// keep keeps the n places from at on, none of which was kept yet.
func (b *behind) keep(at int, n int) {
	for i := at; i < at+n; i++ {
		b.earlier[i] = b.stood(i)
		if key, ok := b.three(i); ok {
			b.last[key] = i
		}
	}
}

// run is Run of a place, all places ahead of which were kept.
func (b *behind) run(at int) (int, int) {
	q := newSearch(b.s, at)
	for place := b.stood(at); place != none && at-place <= farthest && !q.done(); place = b.earlier[place] {
		q.ask(at - place)
	}
	return q.found()
}
