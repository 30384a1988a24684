package inflate

import (
	"slices"
	"strings"

	"celluloid/api"
)

// answer is what Raw tells.
type answer struct {
	out string
	n   int
	e   api.Errno
}

func raw(s string, most int) answer {
	out, n, e := Raw(s, most)
	return answer{out, n, e}
}

// fault is an error that ends the reference wherever it is.
type fault api.Errno

// reference goes through digits by the chapter's words.
type reference struct {
	d    string
	at   int
	most int
	out  []byte
}

// told is what Raw must tell of s.
func told(s string, most int) (a answer) {
	if most < 0 || most > 262144 {
		return answer{e: api.ErrArg}
	}
	defer func() {
		switch f := recover().(type) {
		case nil:
		case fault:
			a = answer{e: api.Errno(f)}
		default:
			panic(f)
		}
	}()
	r := reference{d: digits(s), most: most}
	for {
		last := r.take(1)
		switch r.take(2) {
		case "00":
			r.stored()
		case "10":
			r.items(commonCodes)
		case "01":
			r.own()
		default:
			panic(fault(api.ErrField))
		}
		if last == "1" {
			return answer{string(r.out), (r.at + 7) / 8, api.OK}
		}
	}
}

func refuse(wrong bool, e api.Errno) {
	if wrong {
		panic(fault(e))
	}
}

func (r *reference) take(n int) string {
	refuse(r.at+n > len(r.d), api.ErrShort)
	r.at += n
	return r.d[r.at-n : r.at]
}

func (r *reference) number(n int) int {
	v := 0
	for i, digit := range r.take(n) {
		v += int(digit-'0') << i
	}
	return v
}

func (r *reference) stored() {
	for r.at%8 != 0 {
		r.at++
	}
	n := r.number(16)
	refuse(n+r.number(16) != 65535, api.ErrField)
	refuse(len(r.out)+n > r.most, api.ErrLimit)
	for range n {
		r.out = append(r.out, byte(r.number(8)))
	}
}

// wordings are codes by their texts, and all that these begin with.
type wordings struct {
	codes  map[string]int
	begins map[string]bool
}

func worded(texts []string) wordings {
	w := wordings{map[string]int{}, map[string]bool{}}
	for symbol, text := range texts {
		if text == "" {
			continue
		}
		w.codes[text] = symbol
		for n := range text {
			w.begins[text[:n]] = true
		}
	}
	return w
}

// table is what layer 4's words say of lengths.
func table(lengths []int) wordings {
	sum, count := 0, 0
	for _, n := range lengths {
		if n > 0 {
			sum += 1 << 15 >> n
			count++
		}
	}
	right := sum == 1<<15 || count == 0 || count == 1 && slices.Contains(lengths, 1)
	refuse(!right, api.ErrCode)
	return worded(spelled(lengths))
}

func (r *reference) next(w wordings) int {
	text := ""
	for {
		if symbol, ok := w.codes[text]; ok {
			return symbol
		}
		refuse(!w.begins[text], api.ErrCode)
		text += r.take(1)
	}
}

// blockCodes are those of a block.
type blockCodes struct {
	symbols, distances wordings
}

var commonCodes = blockCodes{worded(common.symbols), worded(common.distances)}

func (r *reference) own() {
	symbols, distances, count := 257+r.number(5), 1+r.number(5), 4+r.number(4)
	refuse(symbols > 286 || distances > 30, api.ErrField)
	meta := make([]int, 19)
	for _, symbol := range written()[:count] {
		meta[symbol] = r.number(3)
	}
	w := table(meta)
	var l []int
	for len(l) < symbols+distances {
		l = append(l, r.some(w, l)...)
		refuse(len(l) > symbols+distances, api.ErrField)
	}
	refuse(l[256] == 0, api.ErrField)
	r.items(blockCodes{table(l[:symbols]), table(l[symbols:])})
}

// some lengths, as the next symbol says them.
func (r *reference) some(w wordings, l []int) []int {
	symbol := r.next(w)
	switch symbol {
	case 16:
		refuse(len(l) == 0, api.ErrField)
		return slices.Repeat(l[len(l)-1:], 3+r.number(2))
	case 17:
		return make([]int, 3+r.number(3))
	case 18:
		return make([]int, 11+r.number(7))
	}
	return []int{symbol}
}

func (r *reference) items(c blockCodes) {
	for {
		symbol := r.next(c.symbols)
		if symbol == 256 {
			return
		}
		more := string([]byte{byte(symbol)})
		if symbol > 256 {
			more = r.copy(symbol, c.distances)
		}
		refuse(len(r.out)+len(more) > r.most, api.ErrLimit)
		r.out = append(r.out, more...)
	}
}

func (r *reference) copy(symbol int, w wordings) string {
	refuse(symbol > 285, api.ErrField)
	length := ruledLengths()[symbol-257]
	n := length.least + r.number(length.bits)
	symbol = r.next(w)
	refuse(symbol > 29, api.ErrField)
	distance := ruledDistances()[symbol]
	far := distance.least + r.number(distance.bits)
	refuse(far > len(r.out), api.ErrField)
	// What the last bytes are, again and again, is what a copy that reaches into itself is.
	from := string(r.out[len(r.out)-far:])
	return strings.Repeat(from, n/far+1)[:n]
}
