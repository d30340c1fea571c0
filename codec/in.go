package codec

// In gives back what an Out took. Its zero value is one of no bytes.
type In struct {
	left []byte
	bad  bool
}

// NewIn makes an In of bytes.
func NewIn(b []byte) *In { return &In{left: copied(b)} }

// N gives a number of size bytes, the greatest first.
func (i *In) N(size int) int64 {
	var v int64
	for _, c := range i.next(size, isSize(size)) {
		v = v<<8 | int64(c)
	}
	return v
}

// Text gives a text, by the length that stands ahead of it.
func (i *In) Text() string {
	length := int(i.N(lengthSize))
	return string(i.next(length, true))
}

// Raw gives n bytes.
func (i *In) Raw(n int) []byte { return copied(i.next(n, n >= 0)) }

// Left tells how many bytes are left: none, if the In is bad.
func (i *In) Left() int {
	if i == nil {
		return 0
	}
	return len(i.left)
}

// Bad tells whether the In was ever asked for what isn't there.
func (i *In) Bad() bool { return i != nil && i.bad }

// Done tells whether all was given, and nothing beyond it was asked for.
func (i *In) Done() bool { return i != nil && !i.bad && len(i.left) == 0 }

// next gives the next n bytes, if such a thing can be there; the In is bad, if
// they aren't. They are the In's own memory, not to be handed out.
func (i *In) next(n int, can bool) []byte {
	if i == nil || i.bad {
		return nil
	}
	if !can || n > len(i.left) {
		// Nobody will be given the rest any more: it isn't kept.
		*i = In{bad: true}
		return nil
	}
	given := i.left[:n]
	i.left = i.left[n:]
	return given
}
