package date

import "strings"

const (
	months   = "JanFebMarAprMayJunJulAugSepOctNovDec"
	inName   = 3
	february = 2

	// daysTo1970 is how many days there are from the year 1's first to 1970's.
	daysTo1970 = 719162
)

// monthName answers the name of a month, from 1 to 12.
func monthName(month int64) string { return months[inName*(month-1):][:inName] }

// monthOf answers which month has the name s, in any letters; 0 if none has.
func monthOf(s string) int64 {
	for month := int64(1); month <= 12; month++ {
		// Three bytes that are three letters are ASCII: no other letter is folded into one of these.
		if len(s) == inName && strings.EqualFold(s, monthName(month)) {
			return month
		}
	}
	return 0
}

// newYear answers which day, from 1970 on, a year's first is.
func newYear(year int64) int64 {
	past := year - 1
	return 365*past + past/4 - past/100 + past/400 - daysTo1970
}

func isLeap(year int64) bool { return year%4 == 0 && (year%100 != 0 || year%400 == 0) }

// length answers how many days a month, from 1 to 12, has.
func length(year, month int64) int64 {
	switch month {
	case february:
		if isLeap(year) {
			return 29
		}
		return 28
	case 4, 6, 9, 11:
		return 30
	}
	return 31
}

// civil answers the year, the month and the day of the month of a day from 1970 on.
func civil(day int64) (year, month, of int64) {
	// As if all years were the longest ones: at most a few too early, so that few are gone through.
	year = 1970 + day/366
	for newYear(year+1) <= day {
		year++
	}
	of = day - newYear(year) + 1
	for month = 1; of > length(year, month); month++ {
		of -= length(year, month)
	}
	return year, month, of
}

// dayOf answers which day, from 1970 on, a day of a month is.
func dayOf(year, month, of int64) int64 {
	day := newYear(year) + of - 1
	for past := int64(1); past < month; past++ {
		day += length(year, past)
	}
	return day
}
