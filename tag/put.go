package tag

import (
	"strings"

	"celluloid/api"
	"celluloid/bits"
)

// Put: a tag's bytes.
func Put(t Raw) (string, api.Errno) {
	if !within(t.Code, 0, maxCode) {
		return "", api.ErrArg
	}
	return bits.PutBytes(head(t), t.Body).S, api.OK
}

// Join: a list's bytes, with its end.
func Join(l []Raw) (string, api.Errno) {
	if len(l) > api.MaxTags {
		return "", api.ErrArg
	}
	// The pieces are laid together at once: so each tag's bytes, which may be many, are not copied for each one behind it.
	pieces := make([]string, 0, len(l)+1)
	for _, t := range l {
		// The end is none of the tags: with a body it would be no end, and without one it would end the list too early.
		if !within(t.Code, api.End+1, maxCode) {
			return "", api.ErrArg
		}
		s, _ := Put(t)
		pieces = append(pieces, s)
	}
	end, _ := Put(Raw{Code: api.End})
	return strings.Join(append(pieces, end), ""), api.OK
}

// head is what stands ahead of a tag's body. A right Code fits always, and so does the number of any bytes that may be handed in, so there is no error to ask for.
func head(t Raw) bits.Writer {
	size := len(t.Body)
	w, _ := bits.PutLittle(bits.Writer{}, t.Code<<sizeBits|min(size, long), headBytes)
	if size >= long {
		w, _ = bits.PutLittle(w, size, longBytes)
	}
	return w
}
