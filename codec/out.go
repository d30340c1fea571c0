package codec

import (
	"cubby/api"
)

// Out takes numbers, texts and bytes, one behind the other. Its zero value is one that has none yet.
type Out struct {
	sheet  *sheet
	size   int
	spoilt bool
}

// sheet is what an Out, and those that are copies of it, have written on: each
// knows by its size how many of the bytes are its own. None of them is ever
// written over, so that copies go their own ways.
type sheet struct {
	bytes []byte
}

// N takes a number of size bytes, the greatest first.
func (o *Out) N(v int64, size int) {
	if !o.takes(isSize(size) && 0 <= v && v < 1<<(8*size)) {
		return
	}
	var number [maxSize]byte
	for i := range size {
		number[i] = byte(v >> (8 * (size - 1 - i)))
	}
	o.put(number[:size])
}

// Text takes a text, behind its length.
func (o *Out) Text(s string) {
	o.N(int64(len(s)), lengthSize)
	if o.takes(true) {
		o.put([]byte(s))
	}
}

// Raw takes bytes as they are.
func (o *Out) Raw(b []byte) {
	if o.takes(true) {
		o.put(b)
	}
}

// End answers all bytes up to here; the Out may go on behind it.
func (o *Out) End() ([]byte, api.Errno) {
	if !o.takes(true) {
		return nil, api.ErrArg
	}
	return copied(o.written()), api.OK
}

// takes tells whether an Out goes on; it is spoilt by what doesn't fit.
func (o *Out) takes(fits bool) bool {
	if o == nil || o.spoilt {
		return false
	}
	if !fits {
		// Nobody will be told the bytes any more: they aren't kept.
		*o = Out{spoilt: true}
	}
	return fits
}

func (o *Out) written() []byte {
	if o.sheet == nil {
		return nil
	}
	return o.sheet.bytes[:o.size]
}

// put writes at the end of the sheet. Where another has written there already,
// it takes a sheet of its own.
func (o *Out) put(b []byte) {
	if o.sheet == nil || len(o.sheet.bytes) != o.size {
		o.sheet = &sheet{copied(o.written())}
	}
	o.sheet.bytes = append(o.sheet.bytes, b...)
	o.size = len(o.sheet.bytes)
}
