package date

// Parse answers the time whose text s is, and whether it is one.
func Parse(s string) (int64, bool) {
	r := reader{rest: s}
	of := r.day()
	r.mark('-')
	month := r.month()
	r.mark('-')
	year := r.number(4, 9999)
	r.mark(' ')
	hour := r.number(2, 23)
	r.mark(':')
	minute := r.number(2, 59)
	r.mark(':')
	second := r.number(2, 59)
	r.mark(' ')
	ahead := r.zone()
	if !r.done() || of < 1 || of > length(year, month) {
		return 0, false
	}
	t := dayOf(year, month, of)*inDay + hour*inHour + minute*inMinute + second - ahead
	if !isTime(t) {
		return 0, false
	}
	return t, true
}

// A reader takes a text's parts from its beginning. Once one of them isn't there, it is bad, and stays so:
// whoever asks it needs to ask whether all went well but once, at the end.
type reader struct {
	rest string
	bad  bool
}

// done tells whether all was as it was asked for, and nothing is left.
func (r *reader) done() bool { return !r.bad && r.rest == "" }

// take answers the next n bytes; "" if there aren't so many.
func (r *reader) take(n int) string {
	if r.bad || len(r.rest) < n {
		r.bad = true
		return ""
	}
	s := r.rest[:n]
	r.rest = r.rest[n:]
	return s
}

func (r *reader) mark(c byte) {
	if s := r.take(1); s != "" && s[0] != c {
		r.bad = true
	}
}

// number answers a number of so many digits, which is at most most.
func (r *reader) number(digits int, most int64) int64 {
	s := r.take(digits)
	n := int64(0)
	for i := range len(s) {
		if s[i] < '0' || s[i] > '9' {
			r.bad = true
			return 0
		}
		n = 10*n + int64(s[i]-'0')
	}
	if n > most {
		r.bad = true
	}
	return n
}

// day answers the day of a month: two digits, or a blank and one.
func (r *reader) day() int64 {
	if r.rest != "" && r.rest[0] == ' ' {
		r.take(1)
		return r.number(1, 9)
	}
	return r.number(2, 31)
}

func (r *reader) month() int64 {
	month := monthOf(r.take(inName))
	if month == 0 {
		r.bad = true
	}
	return month
}

// zone answers how many seconds it is ahead of UTC: fewer than none, if it is behind.
func (r *reader) zone() int64 {
	sign := r.take(1)
	hours := r.number(2, 14)
	minutes := r.number(2, 59)
	ahead := hours*inHour + minutes*inMinute
	switch sign {
	case "+":
		return ahead
	case "-":
		return -ahead
	}
	r.bad = true
	return 0
}
