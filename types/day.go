package types

// The first and the last day of the years 1 to 9999, counted from 1970-01-01 on.
const (
	firstDay = -719162
	lastDay  = 2932896
)

// before returns the number of days from the beginning of the year 1 to that of another year.
func before(year int) int {
	n := year - 1
	return 365*n + n/4 - n/100 + n/400
}

// length returns the number of days of a month.
func length(year, month int) int {
	switch month {
	case 2:
		return before(year+1) - before(year) - 337
	case 4, 6, 9, 11:
		return 30
	}
	return 31
}

// Day returns the day of a date.
func Day(year, month, day int) (int, bool) {
	if year < 1 || year > 9999 || month < 1 || month > 12 || day < 1 || day > length(year, month) {
		return 0, false
	}
	n := firstDay + before(year) + day - 1
	for m := 1; m < month; m++ {
		n += length(year, m)
	}
	return n, true
}

// Date returns the date of a day.
func Date(day int) (year, month, d int, ok bool) {
	if day < firstDay || day > lastDay {
		return 0, 0, 0, false
	}
	n := day - firstDay
	// No year has more than 366 days, so that this year is not too late.
	year = n/366 + 1
	for before(year+1) <= n {
		year++
	}
	n -= before(year)
	month = 1
	for n >= length(year, month) {
		n -= length(year, month)
		month++
	}
	return year, month, n + 1, true
}
