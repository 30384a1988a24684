package pixel

import (
	"celluloid/api"
	"celluloid/bits"
	"celluloid/deflate"
)

// Put: a bitmap's bytes.
func Put(b Bitmap) (string, api.Errno) {
	if !Right(b) {
		return "", api.ErrArg
	}
	// What is right fits always, and has far fewer bytes than may be wrapped, so there is no error to ask for.
	w, _ := bits.PutLittle(bits.Writer{}, b.ID, 2)
	w, _ = bits.PutLittle(w, plain, 1)
	w, _ = bits.PutLittle(w, b.W, 2)
	w, _ = bits.PutLittle(w, b.H, 2)
	wrapped, _ := deflate.Close(plainBytes(b.Pixels))
	return w.S + wrapped, api.OK
}

// plainBytes are the colours, one behind the other. No writer of layer 2 is used here, as it would copy all that stands there for each colour.
func plainBytes(l []api.RGBA) string {
	s := make([]byte, 0, colorBytes*len(l))
	for _, c := range l {
		s = append(s, byte(c.A), byte(c.R), byte(c.G), byte(c.B))
	}
	return string(s)
}
