package frame

import (
	"cubby/api"
	"cubby/codec"
	"cubby/sum"
)

const (
	mark       = "cub"
	kindSize   = 1
	lengthSize = 4
	crcSize    = 4
	// toldSize is how many bytes of a head its CRC is of.
	toldSize = len(mark) + kindSize + lengthSize
)

// head is what a right head tells of its payload.
type head struct {
	kind   int
	length int
	digest [32]byte
}

func isKind(kind int64) bool { return 1 <= kind && kind <= 3 }

// headOf answers the head of a payload that fits.
func headOf(kind int, payload []byte) []byte {
	var told, whole codec.Out
	told.Raw([]byte(mark))
	told.N(int64(kind), kindSize)
	told.N(int64(len(payload)), lengthSize)
	first, _ := told.End()
	digest := sum.Digest(payload)
	whole.Raw(first)
	whole.N(int64(sum.CRC(first)), crcSize)
	whole.Raw(digest[:])
	b, _ := whole.End()
	return b
}

// rightHead answers the head that b begins with, if a right one stands there.
func rightHead(b []byte) (head, bool) {
	if len(b) < Head || string(b[:len(mark)]) != mark {
		return head{}, false
	}
	i := codec.NewIn(b[len(mark):Head])
	kind := i.N(kindSize)
	length := i.N(lengthSize)
	crc := i.N(crcSize)
	if !isKind(kind) || length > api.MaxPayload || crc != int64(sum.CRC(b[:toldSize])) {
		return head{}, false
	}
	h := head{kind: int(kind), length: int(length)}
	copy(h.digest[:], i.Raw(len(h.digest)))
	return h, true
}

// nextHead answers the first right head from a place on, and where it stands.
func nextHead(b []byte, from int) (int, head, bool) {
	for at := from; at < len(b); at++ {
		if h, ok := rightHead(b[at:]); ok {
			return at, h, true
		}
	}
	return 0, head{}, false
}
