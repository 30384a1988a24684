package tag_test

import (
	"math"

	"celluloid/api"
	"celluloid/tag"
)

// The chapter's words once more, over bytes alone: what the tests hold the layer against.

// Numbers that nothing holds.
const (
	most  = math.MaxInt64
	least = math.MinInt64
)

// little is a number in n bytes, the lowest first.
func little(v int, n int) string {
	var s []byte
	for range n {
		s = append(s, byte(v%256))
		v /= 256
	}
	return string(s)
}

// number is that of bytes, the lowest first.
func number(s string) int {
	n := 0
	for i := len(s) - 1; i >= 0; i-- {
		n = 256*n + int(s[i])
	}
	return n
}

// short is a tag that tells how long its body is beside its Code, or so long that it says so alone.
func short(code int, size int, body string) string {
	return little(64*code+size, 2) + body
}

// long is a tag that tells in four bytes how long its body is.
func long(code int, size int, body string) string {
	return short(code, 63, little(size, 4)+body)
}

// wordsPut are a tag's bytes, or an error.
func wordsPut(t tag.Raw) (string, api.Errno) {
	switch {
	case t.Code < 0 || t.Code > 1023:
		return "", api.ErrArg
	case len(t.Body) < 63:
		return short(t.Code, len(t.Body), t.Body), api.OK
	}
	return long(t.Code, len(t.Body), t.Body), api.OK
}

// wordsJoin are a list's bytes, or an error.
func wordsJoin(l []tag.Raw) (string, api.Errno) {
	if len(l) > 256 {
		return "", api.ErrArg
	}
	s := "\x00\x00"
	for i := len(l) - 1; i >= 0; i-- {
		one, e := wordsPut(l[i])
		if e != api.OK || l[i].Code == 0 {
			return "", api.ErrArg
		}
		s = one + s
	}
	return s, api.OK
}

// wordsTake is the tag at the beginning, and the rest, or an error.
func wordsTake(s string) (tag.Raw, string, api.Errno) {
	if len(s) < 2 {
		return tag.Raw{}, "", api.ErrShort
	}
	code, size := number(s[:2])/64, number(s[:2])%64
	from := 2
	if size == 63 {
		if len(s) < 6 {
			return tag.Raw{}, "", api.ErrShort
		}
		size = number(s[2:6])
		from = 6
	}
	if len(s) < from+size {
		return tag.Raw{}, "", api.ErrShort
	}
	return tag.Raw{Code: code, Body: s[from : from+size]}, s[from+size:], api.OK
}

// wordsSplit are a list's tags, and the rest, or an error; ahead is how many tags stand ahead of s.
func wordsSplit(s string, ahead int) ([]tag.Raw, string, api.Errno) {
	one, rest, e := wordsTake(s)
	if e != api.OK {
		return nil, "", e
	}
	if one.Code == 0 && one.Body != "" {
		return nil, "", api.ErrField
	}
	if one.Code == 0 {
		return nil, rest, api.OK
	}
	if ahead+1 == 257 {
		return nil, "", api.ErrLimit
	}
	l, rest, e := wordsSplit(rest, ahead+1)
	if e != api.OK {
		return nil, "", e
	}
	return append([]tag.Raw{one}, l...), rest, api.OK
}
