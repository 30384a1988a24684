package sweep

import "math/bits"

const none = -1

// meets are the segments that cross a row, by the columns of the first samples that they are left of. They are chained, so that they need no more room than there are segments, however many meet in a column.
type meets struct {
	// For each column one of its segments, and for each segment the next one of its column, or none.
	first, next []int
}

// tally is how often a sample is wound by each style.
type tally struct {
	times [mostStyle + 1]int
	// A bit for each style by which it is wound more than 0 times: so the greatest one is found without asking each.
	above [(mostStyle + 1) / 64]uint64
}

// rows are the styles of samples, row by row, by segments that go down.
func rows(l []Seg, columns int, count int) []int {
	owners := make([]int, columns*count)
	m := meets{first: make([]int, columns), next: make([]int, len(l))}
	for k := range count {
		m.find(l, step*k+ahead)
		row(owners[columns*k:columns*(k+1)], l, m)
	}
	return owners
}

// find chains the segments that cross a row.
func (m meets) find(l []Seg, y int) {
	for i := range m.first {
		m.first[i] = none
	}
	for n, s := range l {
		if !crosses(s, y) {
			continue
		}
		if i := column(s, y); i < len(m.first) {
			m.next[n] = m.first[i]
			m.first[i] = n
		}
	}
}

// row tells the styles of one row's samples, from left to right.
func row(owners []int, l []Seg, m meets) {
	var t tally
	for i := range owners {
		for n := m.first[i]; n != none; n = m.next[n] {
			t.add(l[n].Left, 1)
			t.add(l[n].Right, -1)
		}
		owners[i] = t.greatest()
	}
}

func (t *tally) add(style int, n int) {
	t.times[style] += n
	bit := uint64(1) << (style % 64)
	if t.times[style] > 0 {
		t.above[style/64] |= bit
	} else {
		t.above[style/64] &^= bit
	}
}

// greatest is the style that a sample belongs to: 0 too, if there is none.
func (t *tally) greatest() int {
	for i := len(t.above) - 1; i >= 0; i-- {
		if t.above[i] != 0 {
			return 64*i + bits.Len64(t.above[i]) - 1
		}
	}
	return 0
}
