package calendar_test

import (
	"fmt"
	"math"
	"regexp"
	"slices"
	"strconv"
	"strings"
	"testing"

	"permitoffice/api"
	"permitoffice/calendar"
)

// extremes are numbers whose sums and products overflow.
var extremes = []int{math.MinInt, math.MinInt + 1, math.MinInt / 60, math.MinInt / 1440, -1 << 32, 1 << 32, math.MaxInt / 1440, math.MaxInt/1440 + 1, math.MaxInt / 60, 1 << 62, math.MaxInt - 1, math.MaxInt}

// clock is a time with its day, hour and minute.
type clock struct{ t, day, hour, minute int }

// clocks are all times of the first and the last days, and some of the days between, found by counting.
func clocks() []clock {
	var l []clock
	t := 0
	for day := 0; t <= api.MaxTime; day++ {
		if day > 12 && day < 11648 && day%997 != 0 && day != 99 && day != 100 && day != 999 && day != 1000 && day != 9999 && day != 10000 {
			t += 1440
			continue
		}
		for hour := range 24 {
			for minute := range 60 {
				if t <= api.MaxTime {
					l = append(l, clock{t, day, hour, minute})
				}
				t++
			}
		}
	}
	return l
}

// P2.1: Make and Split.

func TestMakeAndSplit(t *testing.T) {
	for _, c := range clocks() {
		if n, e := calendar.Make(c.day, c.hour, c.minute); n != c.t || e != api.OK {
			t.Fatalf("make %v: %d %v", c, n, e)
		}
		if d, h, m, ok := calendar.Split(c.t); d != c.day || h != c.hour || m != c.minute || !ok {
			t.Fatalf("split %v: %d %d %d %v", c, d, h, m, ok)
		}
	}
}

func TestMakeAtTheEndOfTime(t *testing.T) {
	if n, e := calendar.Make(11650, 20, 16); n != api.MaxTime || e != api.OK {
		t.Errorf("the last time: %d %v", n, e)
	}
	for _, x := range [][3]int{{11650, 20, 17}, {11650, 21, 0}, {11650, 23, 59}, {11651, 0, 0}, {11652, 0, 0}} {
		wantNoTime(t, x[0], x[1], x[2])
	}
}

func wantNoTime(t *testing.T, day, hour, minute int) {
	t.Helper()
	if n, e := calendar.Make(day, hour, minute); n != 0 || e != api.ErrRange {
		t.Errorf("%d/%d:%d is no time: %d %v", day, hour, minute, n, e)
	}
}

func TestMakeRejects(t *testing.T) {
	for _, x := range [][3]int{
		{0, 24, 0}, {0, 25, 0}, {0, -1, 0}, {1, -1, 0}, {1, -1, 60}, {1, 24, 0},
		{0, 0, 60}, {0, 0, 61}, {0, 0, -1}, {0, 1, -1}, {1, 0, -1}, {1, 0, 60},
		{-1, 0, 0}, {-1, 23, 59}, {-1, 24, 0}, {-1, 23, 60}, {-2, 48, 0}, {-1, -1, -1},
	} {
		wantNoTime(t, x[0], x[1], x[2])
	}
	for _, x := range extremes {
		wantNoTime(t, x, 0, 0)
		wantNoTime(t, x, 23, 59)
		wantNoTime(t, 0, x, 0)
		wantNoTime(t, 0, 0, x)
		wantNoTime(t, x, x, x)
		wantNoTime(t, x, -x, 0)
	}
	// Products that come back to a time when they overflow: 2^64 = 1440 * 12810238940076077 + 736, and 736 is 12:16.
	wantNoTime(t, 12810238940076077, 12, 16)
	wantNoTime(t, 12810238940076078, 0, 0)
}

func TestSplitRejects(t *testing.T) {
	for _, x := range append([]int{-1, -2, -1440, api.MaxTime + 1, api.MaxTime + 1440}, extremes...) {
		if d, h, m, ok := calendar.Split(x); d != 0 || h != 0 || m != 0 || ok {
			t.Errorf("split %d: %d %d %d %v", x, d, h, m, ok)
		}
	}
}

// P2.1: Print and Parse.

func TestPrint(t *testing.T) {
	for _, x := range []struct {
		t    int
		want string
	}{
		{0, "0/00:00"},
		{9, "0/00:09"},
		{10, "0/00:10"},
		{870, "0/14:30"},
		{1439, "0/23:59"},
		{1440, "1/00:00"},
		{1445, "1/00:05"},
		{10*1440 + 9*60 + 59, "10/09:59"},
		{api.MaxTime, "11650/20:16"},
	} {
		if s, e := calendar.Print(x.t); s != x.want || e != api.OK {
			t.Errorf("print %d: %q %v", x.t, s, e)
		}
	}
	for _, x := range append([]int{-1, -60, -1440, api.MaxTime + 1}, extremes...) {
		if s, e := calendar.Print(x); s != "" || e != api.ErrTime {
			t.Errorf("print %d: %q %v", x, s, e)
		}
	}
}

func TestParseOfPrintIsTheTime(t *testing.T) {
	for _, c := range clocks() {
		s, e := calendar.Print(c.t)
		if want := fmt.Sprintf("%d/%02d:%02d", c.day, c.hour, c.minute); s != want || e != api.OK {
			t.Fatalf("print %v: %q %v", c, s, e)
		}
		if n, e := calendar.Parse(s); n != c.t || e != api.OK {
			t.Fatalf("parse %q: %d %v", s, n, e)
		}
	}
}

var timeText = regexp.MustCompile(`\A(0|[1-9][0-9]{0,8})/([01][0-9]|2[0-3]):([0-5][0-9])\z`)

// checkParse holds Parse against a pattern of the texts.
func checkParse(t *testing.T, s string) {
	t.Helper()
	want, wantErr := 0, api.ErrSyntax
	if parts := timeText.FindStringSubmatch(s); parts != nil {
		day, _ := strconv.Atoi(parts[1])
		hour, _ := strconv.Atoi(parts[2])
		minute, _ := strconv.Atoi(parts[3])
		if n := day*1440 + hour*60 + minute; n <= api.MaxTime {
			want, wantErr = n, api.OK
		}
	}
	if n, e := calendar.Parse(s); n != want || e != wantErr {
		t.Errorf("parse %.60q: %d %v, want %d %v", s, n, e, want, wantErr)
	}
}

func TestParseRejects(t *testing.T) {
	for _, s := range []string{
		"", "/", ":", "/:", "1", "1/", "1/:", "/00:05", "1/00", "1/00:", "1/:05", "00:05", "1:00/05", "1:00:05", "1/00/05",
		"01/00:05", "00/00:00", "1/0:05", "1/00:5", "1/000:05", "1/00:005", "1/0:005", "1/000:5",
		"1/24:00", "1/29:59", "1/99:00", "1/00:60", "1/00:99", "11650/20:17", "11650/21:00", "11651/00:00", "99999/00:00",
		" 1/00:05", "1/00:05 ", "1 /00:05", "1/ 0:05", "1/0 :05", "1/00: 5", "1/00:05\n", "1/00:05\x00", "\x001/00:05",
		"-1/00:00", "-0/00:00", "+1/00:05", "1/-1:05", "1/+1:05", "1/00:-5", "1/00:+5",
		"1//00:05", "1/00::05", "1/00:05/", "1/00:05:", "1/00:05:00", "1/1/00:05", "1/00:05x", "x/00:05", "1/x0:05", "1/0x:05", "1/00:x5", "1/00:0x",
		"1/00.05", "1.00:05", "1/００:05", "é/00:05", "0x1/00:05", "1_0/00:05", "1e1/00:05",
		"18446744073709551617/00:05", "12810238940076077/12:16", "12810238940076078/00:00", strings.Repeat("9", 1<<16) + "/00:05", "1/00:05" + strings.Repeat(" ", 1<<16),
	} {
		if n, e := calendar.Parse(s); n != 0 || e != api.ErrSyntax {
			t.Errorf("%.60q is the text of no time: %d %v", s, n, e)
		}
	}
}

func TestParseOfOtherBytes(t *testing.T) {
	for _, s := range []string{"0/00:00", "1/00:05", "12/23:59", "11650/20:16"} {
		checkParse(t, s)
		for at := range len(s) {
			checkParse(t, s[:at]+s[at+1:])
			for b := range 256 {
				other := string([]byte{byte(b)})
				checkParse(t, s[:at]+other+s[at:])
				checkParse(t, s[:at]+other+s[at+1:])
			}
		}
	}
}

func TestParseOfAllClocks(t *testing.T) {
	for _, day := range []string{"0", "7", "11650", "11651"} {
		for hour := range 100 {
			for minute := range 100 {
				checkParse(t, fmt.Sprintf("%s/%02d:%02d", day, hour, minute))
				checkParse(t, fmt.Sprintf("%s/%d:%d", day, hour, minute))
			}
		}
	}
}

// P2.2: Shift.

var shiftHours = []int{1, 2, 3, 4, 6, 8, 12, 24}

func TestShift(t *testing.T) {
	for _, x := range []struct{ t, hours, want int }{
		{0, 1, -6}, {59, 1, -6}, {60, 1, -5}, {359, 1, -1}, {360, 1, 0}, {419, 1, 0}, {420, 1, 1},
		{0, 2, -3}, {119, 2, -3}, {120, 2, -2}, {359, 2, -1}, {360, 2, 0},
		{0, 3, -2}, {179, 3, -2}, {180, 3, -1}, {359, 3, -1}, {360, 3, 0},
		{0, 4, -2}, {119, 4, -2}, {120, 4, -1}, {359, 4, -1}, {360, 4, 0},
		{0, 6, -1}, {359, 6, -1}, {360, 6, 0}, {720, 6, 1},
		{0, 8, -1}, {359, 8, -1}, {360, 8, 0}, {839, 8, 0}, {840, 8, 1},
		{0, 12, -1}, {359, 12, -1}, {360, 12, 0}, {1080, 12, 1},
		{0, 24, -1}, {359, 24, -1}, {360, 24, 0}, {1799, 24, 0}, {1800, 24, 1}, {api.MaxTime, 24, 11650},
	} {
		if n, e := calendar.Shift(x.t, x.hours); n != x.want || e != api.OK {
			t.Errorf("shift of %d with %d hours: %d %v", x.t, x.hours, n, e)
		}
	}
}

func TestShiftContainsItsTime(t *testing.T) {
	for _, c := range clocks() {
		for _, hours := range shiftHours {
			n, e := calendar.Shift(c.t, hours)
			begin := 360 + n*hours*60
			if e != api.OK || c.t < begin || begin+hours*60 <= c.t {
				t.Fatalf("shift of %d with %d hours: %d %v", c.t, hours, n, e)
			}
		}
	}
}

func TestShiftRejects(t *testing.T) {
	badTimes := append([]int{-1, -360, api.MaxTime + 1}, extremes...)
	badHours := append([]int{}, extremes...)
	for hours := -50; hours <= 50; hours++ {
		if !slices.Contains(shiftHours, hours) {
			badHours = append(badHours, hours)
		}
	}
	for _, hours := range badHours {
		for _, x := range []int{0, 359, 360, 500, api.MaxTime} {
			if n, e := calendar.Shift(x, hours); n != 0 || e != api.ErrRange {
				t.Errorf("shift of %d with %d hours: %d %v", x, hours, n, e)
			}
		}
	}
	// ErrTime is named first: it is returned whatever the hours are.
	for _, x := range badTimes {
		for _, hours := range append(badHours, shiftHours...) {
			if n, e := calendar.Shift(x, hours); n != 0 || e != api.ErrTime {
				t.Errorf("shift of %d with %d hours: %d %v", x, hours, n, e)
			}
		}
	}
}

// P2.3: Valid and Overlap.

// bases are where lists of small spans begin: at both ends of time.
var bases = []int{0, api.MaxTime - 6}

// smallSpans are the spans of six minutes from base on.
func smallSpans(base int) []api.Span {
	var l []api.Span
	for from := range 6 {
		for until := from + 1; until <= 6; until++ {
			l = append(l, api.Span{From: base + from, Until: base + until})
		}
	}
	return l
}

func invalidSpans() []api.Span {
	l := []api.Span{{}, {From: 3, Until: 3}, {From: 4, Until: 3}, {From: -1, Until: 3}, {From: -1, Until: 0}, {From: -3, Until: -1}, {From: 1, Until: api.MaxTime + 1}, {From: api.MaxTime, Until: api.MaxTime}, {From: api.MaxTime, Until: api.MaxTime + 1}, {From: 5, Until: -5}, {From: math.MinInt, Until: math.MaxInt}, {From: math.MaxInt, Until: math.MinInt}}
	for _, x := range extremes {
		l = append(l, api.Span{From: x, Until: 7}, api.Span{From: 7, Until: x}, api.Span{From: x, Until: x})
	}
	return l
}

func TestValid(t *testing.T) {
	for _, s := range []api.Span{{From: 0, Until: 1}, {From: 0, Until: api.MaxTime}, {From: api.MaxTime - 1, Until: api.MaxTime}, {From: 5, Until: 9}} {
		if !calendar.Valid(s) {
			t.Errorf("%v is valid", s)
		}
	}
	for _, s := range invalidSpans() {
		if calendar.Valid(s) {
			t.Errorf("%v is not valid", s)
		}
	}
}

// minutesOf counts how often each of the six minutes from base on is in a list.
func minutesOf(base int, l ...api.Span) [6]int {
	var count [6]int
	for _, s := range l {
		for i := s.From; i < s.Until; i++ {
			count[i-base]++
		}
	}
	return count
}

func TestOverlap(t *testing.T) {
	for _, base := range bases {
		for _, a := range smallSpans(base) {
			for _, b := range smallSpans(base) {
				s, ok := calendar.Overlap(a, b)
				if got := minutesOf(base, s); ok {
					if !calendar.Valid(s) || got != common(base, a, b) {
						t.Errorf("overlap of %v and %v: %v", a, b, s)
					}
				} else if s != (api.Span{}) || common(base, a, b) != [6]int{} {
					t.Errorf("overlap of %v and %v: %v false", a, b, s)
				}
			}
		}
	}
}

func common(base int, a, b api.Span) [6]int {
	both := minutesOf(base, a, b)
	for i, n := range both {
		both[i] = n / 2
	}
	return both
}

func TestOverlapOfInvalidSpans(t *testing.T) {
	whole := api.Span{From: 0, Until: api.MaxTime}
	for _, bad := range invalidSpans() {
		for _, x := range [][2]api.Span{{whole, bad}, {bad, whole}, {bad, bad}, {bad, {From: 1, Until: 5}}, {{From: 1, Until: 5}, bad}} {
			if s, ok := calendar.Overlap(x[0], x[1]); ok || s != (api.Span{}) {
				t.Errorf("overlap of %v: %v %v", x, s, ok)
			}
		}
	}
}

// P2.3: Union and Minutes.

// wantUnion holds Union and Minutes of spans within six minutes from base on against these minutes.
func wantUnion(t *testing.T, base int, l ...api.Span) {
	t.Helper()
	var want []api.Span
	sum := 0
	for i, n := range minutesOf(base, l...) {
		if n == 0 {
			continue
		}
		sum++
		if last := len(want) - 1; last >= 0 && want[last].Until == base+i {
			want[last].Until++
		} else {
			want = append(want, api.Span{From: base + i, Until: base + i + 1})
		}
	}
	u, e := calendar.Union(l)
	if e != api.OK || !slices.Equal(u, want) {
		t.Errorf("union of %v: %v %v, want %v", l, u, e, want)
	}
	if again, e := calendar.Union(u); e != api.OK || !slices.Equal(again, u) {
		t.Errorf("union of the union of %v: %v %v", l, again, e)
	}
	if n, e := calendar.Minutes(l); n != sum || e != api.OK {
		t.Errorf("minutes of %v: %d %v, want %d", l, n, e, sum)
	}
}

func TestUnionOfAllShortLists(t *testing.T) {
	for _, base := range bases {
		wantUnion(t, base)
		spans := smallSpans(base)
		for _, a := range spans {
			wantUnion(t, base, a)
			for _, b := range spans {
				wantUnion(t, base, a, b)
				for _, c := range spans {
					wantUnion(t, base, a, b, c)
				}
			}
		}
	}
}

func TestUnion(t *testing.T) {
	for _, x := range []struct {
		l, want []api.Span
		minutes int
	}{
		{nil, nil, 0},
		{[]api.Span{}, nil, 0},
		{[]api.Span{{From: 0, Until: api.MaxTime}}, []api.Span{{From: 0, Until: api.MaxTime}}, api.MaxTime},
		{[]api.Span{{From: 7, Until: 9}, {From: 1, Until: 3}, {From: 3, Until: 4}, {From: 2, Until: 3}}, []api.Span{{From: 1, Until: 4}, {From: 7, Until: 9}}, 5},
		{[]api.Span{{From: 5, Until: 6}, {From: 3, Until: 4}, {From: 1, Until: 2}}, []api.Span{{From: 1, Until: 2}, {From: 3, Until: 4}, {From: 5, Until: 6}}, 3},
		{[]api.Span{{From: 1, Until: 100}, {From: 2, Until: 3}, {From: 50, Until: 60}, {From: 99, Until: 101}}, []api.Span{{From: 1, Until: 101}}, 100},
		{[]api.Span{{From: 4, Until: 8}, {From: 4, Until: 8}, {From: 4, Until: 5}}, []api.Span{{From: 4, Until: 8}}, 4},
	} {
		if u, e := calendar.Union(x.l); e != api.OK || !slices.Equal(u, x.want) {
			t.Errorf("union of %v: %v %v", x.l, u, e)
		}
		if n, e := calendar.Minutes(x.l); n != x.minutes || e != api.OK {
			t.Errorf("minutes of %v: %d %v", x.l, n, e)
		}
	}
}

func TestUnionOfLongLists(t *testing.T) {
	const n = 20011 // a prime: i*7919%n gives each number once
	var apart, touching, want []api.Span
	for i := range n {
		at := i * 7919 % n * 10
		apart = append(apart, api.Span{From: at, Until: at + 9})
		touching = append(touching, api.Span{From: at, Until: at + 10})
		want = append(want, api.Span{From: i * 10, Until: i*10 + 9})
	}
	if u, e := calendar.Union(apart); e != api.OK || !slices.Equal(u, want) {
		t.Errorf("spans that are apart: %d spans, %v", len(u), e)
	}
	if m, e := calendar.Minutes(apart); m != 9*n || e != api.OK {
		t.Errorf("minutes of spans that are apart: %d %v", m, e)
	}
	if u, e := calendar.Union(touching); e != api.OK || !slices.Equal(u, []api.Span{{From: 0, Until: 10 * n}}) {
		t.Errorf("spans that touch: %d spans, %v", len(u), e)
	}
	if m, e := calendar.Minutes(touching); m != 10*n || e != api.OK {
		t.Errorf("minutes of spans that touch: %d %v", m, e)
	}
}

func TestUnionOfInvalidSpans(t *testing.T) {
	good := []api.Span{{From: 0, Until: api.MaxTime}, {From: 1, Until: 2}}
	for _, bad := range invalidSpans() {
		for at := range len(good) + 1 {
			l := slices.Insert(slices.Clone(good), at, bad)
			if u, e := calendar.Union(l); len(u) != 0 || e != api.ErrTime {
				t.Errorf("union of %v: %v %v", l, u, e)
			}
			if n, e := calendar.Minutes(l); n != 0 || e != api.ErrTime {
				t.Errorf("minutes of %v: %d %v", l, n, e)
			}
		}
	}
}

func TestListsStayAsTheyAre(t *testing.T) {
	// The room behind the list belongs to the caller too.
	room := []api.Span{{From: 7, Until: 9}, {From: 1, Until: 3}, {From: 3, Until: 4}, {From: 90, Until: 99}}
	before := slices.Clone(room)
	l := room[:3]
	first, _ := calendar.Union(l)
	second, _ := calendar.Union(l)
	calendar.Minutes(l)
	if !slices.Equal(room, before) {
		t.Errorf("the list became %v", room)
	}
	for i := range first {
		first[i] = api.Span{From: 50, Until: 51}
	}
	if !slices.Equal(room, before) || !slices.Equal(second, []api.Span{{From: 1, Until: 4}, {From: 7, Until: 9}}) {
		t.Errorf("a union shares memory: %v, %v", room, second)
	}
	for _, l := range [][]api.Span{{{From: 2, Until: 3}}, {{From: 1, Until: 4}, {From: 7, Until: 9}}} {
		before := slices.Clone(l)
		u, _ := calendar.Union(l)
		u[0] = api.Span{}
		if !slices.Equal(l, before) {
			t.Errorf("the union of a union is the list itself: %v", l)
		}
	}
}
