package clock_test

import (
	"math"
	"math/rand"
	"slices"
	"testing"
	"time"

	"lanyard/clock"
)

const (
	firstSecond = -631152000 // 1950, 1, 1, 0, 0, 0
	firstLong   = 2524608000 // 2050, 1, 1, 0, 0, 0
	lastSecond  = 7258118399 // 2199, 12, 31, 23, 59, 59
)

// knownTimes have seconds and texts that were not worked out by this package.
func knownTimes() []knownTime {
	return []knownTime{
		{[6]int{1950, 1, 1, 0, 0, 0}, firstSecond, "500101000000Z", "19500101000000Z"},
		{[6]int{1950, 1, 1, 0, 0, 1}, firstSecond + 1, "500101000001Z", "19500101000001Z"},
		{[6]int{1952, 2, 29, 12, 0, 0}, -562939200, "520229120000Z", "19520229120000Z"},
		{[6]int{1969, 12, 31, 23, 59, 59}, -1, "691231235959Z", "19691231235959Z"},
		{[6]int{1970, 1, 1, 0, 0, 0}, 0, "700101000000Z", "19700101000000Z"},
		{[6]int{1970, 1, 1, 0, 0, 59}, 59, "700101000059Z", "19700101000059Z"},
		{[6]int{1970, 1, 1, 0, 1, 0}, 60, "700101000100Z", "19700101000100Z"},
		{[6]int{1970, 1, 1, 1, 0, 0}, 3600, "700101010000Z", "19700101010000Z"},
		{[6]int{1970, 1, 2, 0, 0, 0}, 86400, "700102000000Z", "19700102000000Z"},
		{[6]int{1999, 12, 31, 23, 59, 59}, 946684799, "991231235959Z", "19991231235959Z"},
		{[6]int{2000, 1, 1, 0, 0, 0}, 946684800, "000101000000Z", "20000101000000Z"},
		{[6]int{2000, 2, 29, 23, 59, 59}, 951868799, "000229235959Z", "20000229235959Z"},
		{[6]int{2000, 3, 1, 0, 0, 0}, 951868800, "000301000000Z", "20000301000000Z"},
		{[6]int{2001, 9, 9, 1, 46, 40}, 1000000000, "010909014640Z", "20010909014640Z"},
		{[6]int{2038, 1, 19, 3, 14, 7}, math.MaxInt32, "380119031407Z", "20380119031407Z"},
		{[6]int{2049, 12, 31, 23, 59, 59}, firstLong - 1, "491231235959Z", "20491231235959Z"},
		{[6]int{2050, 1, 1, 0, 0, 0}, firstLong, "", "20500101000000Z"},
		{[6]int{2100, 2, 28, 23, 59, 59}, 4107542399, "", "21000228235959Z"},
		{[6]int{2100, 3, 1, 0, 0, 0}, 4107542400, "", "21000301000000Z"},
		{[6]int{2199, 12, 31, 23, 59, 59}, lastSecond, "", "21991231235959Z"},
	}
}

type knownTime struct {
	date    [6]int
	seconds int64
	short   string // empty if two digits do not tell the year
	long    string
}

func (k knownTime) text() string {
	if k.short != "" {
		return k.short
	}
	return k.long
}

// someSeconds are the same ones in every run: edges of days, months and years, and random ones.
func someSeconds(seed int64) []int64 {
	r := rand.New(rand.NewSource(seed))
	l := []int64{firstSecond, firstSecond + 1, -1, 0, 1, firstLong - 1, firstLong, lastSecond - 1, lastSecond}
	for year := 1951; year <= 2199; year++ {
		for _, month := range []time.Month{1, 2, 3, 7, 12} {
			start := time.Date(year, month, 1, 0, 0, 0, 0, time.UTC).Unix()
			l = append(l, start-1, start, start+1)
		}
	}
	for range 5000 {
		l = append(l, firstSecond+r.Int63n(lastSecond-firstSecond+1))
	}
	return l
}

// noSeconds are before the first date or after the last one.
func noSeconds() []int64 {
	l := []int64{
		math.MinInt64, math.MinInt64 + 1, math.MinInt32 - 1, firstSecond - 86400, firstSecond - 1,
		lastSecond + 1, lastSecond + 86400, math.MaxInt64 - 1, math.MaxInt64,
	}
	for shift := 33; shift < 63; shift++ { // a narrower kind of integer would take some of these for dates
		l = append(l, 1<<shift, 1<<shift+951868800, -1<<shift, -1<<shift+951868800)
	}
	return l
}

func isSeconds(t *testing.T, d [6]int, want int64) {
	t.Helper()
	if s, ok := clock.Seconds(d); !ok || s != want {
		t.Errorf("Seconds(%v) = %d, %v, want %d, true", d, s, ok, want)
	}
}

func isNoDate(t *testing.T, d [6]int) {
	t.Helper()
	if s, ok := clock.Seconds(d); ok || s != 0 {
		t.Errorf("Seconds(%v) = %d, %v, want 0, false", d, s, ok)
	}
}

func isDateOf(t *testing.T, s int64, want [6]int) {
	t.Helper()
	if d, ok := clock.Date(s); !ok || d != want {
		t.Errorf("Date(%d) = %v, %v, want %v, true", s, d, ok, want)
	}
}

func isWritten(t *testing.T, name string, write func(int64) (string, bool), s int64, want string) {
	t.Helper()
	if text, ok := write(s); ok != (want != "") || text != want {
		t.Errorf("%s(%d) = %q, %v, want %q", name, s, text, ok, want)
	}
}

func isRead(t *testing.T, text string, long bool, want int64) {
	t.Helper()
	if s, ok := clock.Read(text, long); !ok || s != want {
		t.Errorf("Read(%q, %v) = %d, %v, want %d, true", text, long, s, ok, want)
	}
}

func refused(t *testing.T, text string, long bool) {
	t.Helper()
	if s, ok := clock.Read(text, long); ok || s != 0 {
		t.Errorf("Read(%q, %v) = %d, %v, want 0, false", text, long, s, ok)
	}
}

// P3.1

func TestKnownDates(t *testing.T) {
	for _, k := range knownTimes() {
		isSeconds(t, k.date, k.seconds)
		isDateOf(t, k.seconds, k.date)
	}
}

func TestEveryDay(t *testing.T) {
	start := time.Date(1950, 1, 1, 0, 0, 0, 0, time.UTC)
	days := 0
	for day := start; day.Year() <= 2199; day = day.AddDate(0, 0, 1) {
		d := [6]int{day.Year(), int(day.Month()), day.Day()}
		isSeconds(t, d, day.Unix())
		isDateOf(t, day.Unix(), d)
		isDateOf(t, day.Unix()+86399, [6]int{d[0], d[1], d[2], 23, 59, 59})
		days++
	}
	if want := 250*365 + 61; days != want { // 62 of the years are divisible by 4, and 2100 is no leap year
		t.Errorf("%d days, want %d", days, want)
	}
}

func TestEverySecondOfADay(t *testing.T) {
	for _, start := range []int64{firstSecond, -86400, 0, 951782400, lastSecond - 86399} {
		for i := range 86400 {
			s := start + int64(i)
			when := time.Unix(s, 0).UTC()
			d := [6]int{when.Year(), int(when.Month()), when.Day(), i / 3600, i / 60 % 60, i % 60}
			isDateOf(t, s, d)
			isSeconds(t, d, s)
		}
	}
}

func TestLastDaysOfMonths(t *testing.T) {
	for year := 1950; year <= 2199; year++ {
		for month := 1; month <= 12; month++ {
			last := time.Date(year, time.Month(month)+1, 0, 0, 0, 0, 0, time.UTC)
			isSeconds(t, [6]int{year, month, last.Day()}, last.Unix())
			for day := last.Day() + 1; day <= 32; day++ {
				isNoDate(t, [6]int{year, month, day})
			}
			isNoDate(t, [6]int{year, month, 0})
		}
	}
}

func TestLeapYears(t *testing.T) {
	for _, year := range []int{1952, 1996, 2000, 2004, 2096, 2104, 2196} {
		if _, ok := clock.Seconds([6]int{year, 2, 29}); !ok {
			t.Errorf("%d has no 29 days in month 2", year)
		}
	}
	for _, year := range []int{1950, 1951, 1999, 2001, 2002, 2100, 2198, 2199} {
		isNoDate(t, [6]int{year, 2, 29})
	}
}

func TestNoDates(t *testing.T) {
	least := [6]int{1950, 1, 1, 0, 0, 0}
	most := [6]int{2199, 12, 31, 23, 59, 59}
	for _, base := range [][6]int{least, {2000, 3, 1, 4, 5, 6}, most} {
		for i := range base {
			for _, part := range []int{
				least[i] - 1, most[i] + 1, least[i] - 100, most[i] + 100, -1, -least[i] - 1, most[i] + 256, most[i] + 65536,
				base[i] + math.MaxUint32 + 1, base[i] - math.MaxUint32 - 1, math.MinInt, math.MaxInt,
			} {
				d := base
				d[i] = part
				isNoDate(t, d)
			}
		}
	}
	isNoDate(t, [6]int{})
	isNoDate(t, [6]int{math.MinInt, math.MinInt, math.MinInt, math.MinInt, math.MinInt, math.MinInt})
	isNoDate(t, [6]int{math.MaxInt, math.MaxInt, math.MaxInt, math.MaxInt, math.MaxInt, math.MaxInt})
	isNoDate(t, [6]int{1970, 1, 1, 0, 0, 60})
	isNoDate(t, [6]int{1970, 1, 1, 0, 60, 0})
	isNoDate(t, [6]int{1970, 1, 1, 24, 0, 0})
	isNoDate(t, [6]int{2016, 12, 31, 23, 59, 60})
}

func TestNoSeconds(t *testing.T) {
	for _, s := range noSeconds() {
		if d, ok := clock.Date(s); ok || d != [6]int{} {
			t.Errorf("Date(%d) = %v, %v, want zeros, false", s, d, ok)
		}
	}
}

// P3.2

func TestKnownTexts(t *testing.T) {
	for _, k := range knownTimes() {
		isWritten(t, "Short", clock.Short, k.seconds, k.short)
		isWritten(t, "Long", clock.Long, k.seconds, k.long)
		isWritten(t, "Text", clock.Text, k.seconds, k.text())
	}
}

func TestTextsOfManySeconds(t *testing.T) {
	for _, s := range someSeconds(1) {
		long := time.Unix(s, 0).UTC().Format("20060102150405Z")
		short, text := "", long
		if s < firstLong {
			short, text = long[2:], long[2:]
		}
		isWritten(t, "Long", clock.Long, s, long)
		isWritten(t, "Short", clock.Short, s, short)
		isWritten(t, "Text", clock.Text, s, text)
	}
}

func TestTextsOfNoSeconds(t *testing.T) {
	for _, s := range noSeconds() {
		isWritten(t, "Short", clock.Short, s, "")
		isWritten(t, "Long", clock.Long, s, "")
		isWritten(t, "Text", clock.Text, s, "")
	}
}

// P3.3

func TestReadKnownTexts(t *testing.T) {
	for _, k := range knownTimes() {
		isRead(t, k.long, true, k.seconds)
		refused(t, k.long, false)
		if k.short != "" {
			isRead(t, k.short, false, k.seconds)
			refused(t, k.short, true)
		}
	}
}

func TestReadEveryShortYear(t *testing.T) {
	for digits := range 100 {
		year := 2000 + digits
		if digits >= 50 {
			year = 1900 + digits
		}
		text := string([]byte{'0' + byte(digits/10), '0' + byte(digits%10)}) + "0615123456Z"
		isRead(t, text, false, time.Date(year, 6, 15, 12, 34, 56, 0, time.UTC).Unix())
	}
}

func TestReadRefusesNoDates(t *testing.T) {
	for _, text := range []string{
		"000001000000Z", "001301000000Z", "009901000000Z", "000100000000Z", "000132000000Z", "000199000000Z",
		"010229000000Z", "000230000000Z", "000431000000Z", "000631000000Z", "000931000000Z", "001131000000Z",
		"000101240000Z", "000101006000Z", "000101000060Z", "161231235960Z", "000101999999Z", "000000000000Z", "999999999999Z",
	} {
		refused(t, text, false)
		refused(t, "20"+text, true)
		refused(t, "19"+text, true)
	}
	for _, text := range []string{
		"19491231235959Z", "22000101000000Z", "00000101000000Z", "00000000000000Z", "99991231235959Z", "99999999999999Z",
		"18700101000000Z", "19000101000000Z", "21000229000000Z", "23000301000000Z",
	} {
		refused(t, text, true)
	}
}

func TestReadRefusesOtherForms(t *testing.T) {
	for _, text := range []string{
		"", "Z", "0", "000301Z", "0003010000Z", "000301000000", "000301000000z", "000301000000ZZ", "000301000000Z ",
		" 000301000000Z", "000301000000Z\n", "0003010000000Z", "00301000000Z", "000301000000+0000", "000301000000.0Z",
		"0003010000 0Z", "00030100000-Z", "+00301000000Z", "-00301000000Z", "0x0301000000Z", "00_301000000Z", "00030100000\x00Z",
		"00030100000\xffZ", "Z00301000000Z", "ZZZZZZZZZZZZZ", "00030100000é", "０００301000000Z", "2000-03-01T00:00:00Z",
	} {
		refused(t, text, false)
		refused(t, text, true)
		refused(t, "20"+text, true)
	}
	refused(t, "20000301000000Z\x00", true)
	refused(t, "20000301000000.0Z", true)
	refused(t, "020000301000000Z", true)
	refused(t, "2000301000000Z", true)
	refused(t, "+2000030100000Z", true)
	refused(t, "-2000030100000Z", true)
}

// Any byte at any place either gives a text that is written, or is refused.
func TestReadWithEveryByteAtEveryPlace(t *testing.T) {
	for _, c := range []struct {
		text  string
		long  bool
		write func(int64) (string, bool)
	}{
		{"111111111111Z", false, clock.Short},
		{"20111111111111Z", true, clock.Long},
	} {
		for place := range len(c.text) {
			for v := range 256 {
				text := []byte(c.text)
				text[place] = byte(v)
				when, err := time.Parse("20060102150405Z", "20"[:15-len(text)]+string(text))
				isDate := err == nil && (!c.long || when.Year() >= 1950 && when.Year() <= 2199)
				s, ok := clock.Read(string(text), c.long)
				if back, _ := c.write(s); ok != isDate || ok && back != string(text) || !ok && s != 0 {
					t.Errorf("Read(%q, %v) = %d, %v, which is written %q", text, c.long, s, ok, back)
				}
			}
		}
	}
}

// P3.4

func TestSecondsAndDateAreInverse(t *testing.T) {
	for _, s := range someSeconds(2) {
		d, ok := clock.Date(s)
		if back, isDate := clock.Seconds(d); !ok || !isDate || back != s {
			t.Errorf("Date(%d) = %v, %v, with the seconds %d, %v", s, d, ok, back, isDate)
		}
	}
}

func TestDateAndSecondsAreInverse(t *testing.T) {
	r := rand.New(rand.NewSource(3))
	taken := 0
	for range 50000 {
		d := [6]int{1948 + r.Intn(254), r.Intn(14), r.Intn(33), r.Intn(25), r.Intn(61), r.Intn(61)}
		when := time.Date(d[0], time.Month(d[1]), d[2], d[3], d[4], d[5], 0, time.UTC)
		normal := [6]int{when.Year(), int(when.Month()), when.Day(), when.Hour(), when.Minute(), when.Second()}
		if d[0] < 1950 || d[0] > 2199 || d != normal {
			isNoDate(t, d)
			continue
		}
		isSeconds(t, d, when.Unix())
		isDateOf(t, when.Unix(), d)
		taken++
	}
	if taken < 10000 {
		t.Errorf("only %d of them were dates", taken)
	}
}

func TestTextsAndReadAreInverse(t *testing.T) {
	for _, s := range someSeconds(4) {
		long, _ := clock.Long(s)
		isRead(t, long, true, s)
		if short, ok := clock.Short(s); ok {
			isRead(t, short, false, s)
		}
		text, _ := clock.Text(s)
		isRead(t, text, len(text) != 13, s)
	}
}

func TestReadAndTextsAreInverse(t *testing.T) {
	r := rand.New(rand.NewSource(5))
	taken := 0
	for i := range 200000 {
		digits := make([]byte, 12)
		for j := range digits {
			digits[j] = "00001112"[r.Intn(8)]
		}
		text, isLong, write := string(digits)+"Z", i%2 == 1, clock.Short
		if isLong {
			text, write = []string{"19", "20", "21", "22"}[r.Intn(4)]+text, clock.Long
		}
		if s, ok := clock.Read(text, isLong); ok {
			isWritten(t, "the text", write, s, text)
			taken++
		}
	}
	if taken < 10000 {
		t.Errorf("only %d of the texts were dates", taken)
	}
}

func TestLaterDatesAreGreater(t *testing.T) {
	l := someSeconds(6)
	slices.Sort(l)
	l = slices.Compact(l)
	for i := 1; i < len(l); i++ {
		before, _ := clock.Date(l[i-1])
		after, _ := clock.Date(l[i])
		if slices.Compare(before[:], after[:]) != -1 {
			t.Errorf("Date(%d) = %v is not before Date(%d) = %v", l[i-1], before, l[i], after)
		}
		textBefore, _ := clock.Long(l[i-1])
		textAfter, _ := clock.Long(l[i])
		if textBefore >= textAfter {
			t.Errorf("Long(%d) = %q is not less than Long(%d) = %q", l[i-1], textBefore, l[i], textAfter)
		}
	}
}

// P0 and R1

func TestReadOfAnyText(t *testing.T) {
	r := rand.New(rand.NewSource(7))
	for range 20000 {
		text := make([]byte, r.Intn(20))
		r.Read(text)
		if n := len(text); n > 0 {
			text[n-1] = 'Z'
		}
		refused(t, string(text), false)
		refused(t, string(text), true)
	}
	refused(t, string(make([]byte, 1<<20)), true)
}
