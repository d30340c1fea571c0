package parse

import "strings"

const (
	maxItems = 20

	// A section is asked for by either of these, with the same behind it.
	section       = "BODY["
	peekedSection = "BODY.PEEK["
)

// itemNames holds the items' names, each at the place of its kind, from 1 on.
var itemNames = [...]string{"UID", "FLAGS", "INTERNALDATE", "RFC822.SIZE", "ENVELOPE", "BODY[]", "BODY[HEADER]", "BODY[TEXT]"}

// items answers the next item, or the items of the next ( and ).
func (r *reader) items() []Item {
	if !r.comes(anOpening) {
		return []Item{r.item()}
	}
	r.take(anOpening)
	items := []Item{r.item()}
	for r.comes(anAtom) {
		items = append(items, r.item())
	}
	r.take(aClosing)
	r.must(len(items) <= maxItems)
	return items
}

func (r *reader) item() Item {
	s := r.great()
	behind, peek := strings.CutPrefix(s, peekedSection)
	if peek {
		s = section + behind
	}
	for place, name := range itemNames {
		if s == name {
			return Item{Kind: place + 1, Peek: peek}
		}
	}
	r.bad = true
	return Item{}
}
