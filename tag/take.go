package tag

import (
	"celluloid/api"
	"celluloid/bits"
)

// Take: the tag at the beginning, and the rest.
func Take(s string) (Raw, string, api.Errno) {
	t := &taker{r: bits.Reader{S: s}}
	told := t.number(headBytes)
	size := told & long
	if size == long {
		size = t.number(longBytes)
	}
	body := t.bytes(size)
	if t.e != api.OK {
		return Raw{}, "", t.e
	}
	return Raw{Code: told >> sizeBits, Body: body}, s[t.r.At/8:], api.OK
}

// Split: the tags of the list at the beginning, without its end, and the rest.
func Split(s string) ([]Raw, string, api.Errno) {
	var l []Raw
	for {
		t, rest, e := Take(s)
		switch {
		case e != api.OK:
			return nil, "", e
		case t.Code == api.End && t.Body != "":
			return nil, "", api.ErrField
		case t.Code == api.End:
			return l, rest, api.OK
		case len(l) == api.MaxTags:
			return nil, "", api.ErrLimit
		}
		l = append(l, t)
		s = rest
	}
}

// taker takes one thing after another and keeps the first error; behind it nothing is read any more, and all is nothing.
type taker struct {
	r bits.Reader
	e api.Errno
}

// number of the next n bytes.
func (t *taker) number(n int) int {
	var v int
	if t.e == api.OK {
		v, t.r, t.e = bits.Little(t.r, n)
	}
	return v
}

// bytes: the next n of them.
func (t *taker) bytes(n int) string {
	var s string
	if t.e == api.OK {
		s, t.r, t.e = bits.Bytes(t.r, n)
	}
	return s
}
