package lexeme_test

import (
	"math"
	"slices"
	"strconv"
	"strings"
	"testing"

	"permitoffice/api"
	"permitoffice/lexeme"
)

func isLetter(b byte) bool { return 'A' <= b && b <= 'Z' || 'a' <= b && b <= 'z' }

func isDigit(b byte) bool { return '0' <= b && b <= '9' }

// The tests with every byte hold the table of the layer against its ranges, written in another way.
func everyByte(t *testing.T, test func(t *testing.T, b byte)) {
	t.Helper()
	for i := range 256 {
		test(t, byte(i))
	}
}

// P1.1: Name.

func TestNameTakesLettersDigitsAndUnderscores(t *testing.T) {
	for _, s := range []string{"Q1", "a", "Z", "z_9", "A__", "a_b", "Zz09_", "abcdefghijkl", "A12345678901"} {
		if !lexeme.Name(s) {
			t.Errorf("%q is a name", s)
		}
	}
}

func TestNameRejects(t *testing.T) {
	for _, s := range []string{"", "1Q", "_a", "_", "9", "a b", " a", "a ", "a-b", "a\n", "a\x00", "a.", "é", "aé", "a\xff"} {
		if lexeme.Name(s) {
			t.Errorf("%q is no name", s)
		}
	}
}

func TestNameLength(t *testing.T) {
	for n := range 40 {
		s := strings.Repeat("a", n)
		if want := n >= 1 && n <= api.MaxName; lexeme.Name(s) != want {
			t.Errorf("a name of %d bytes: %v", n, !want)
		}
	}
	if lexeme.Name(strings.Repeat("a", 1<<20)) {
		t.Error("a long string is no name")
	}
	if lexeme.Name(strings.Repeat("é", api.MaxName/2)) {
		t.Error("other letters are in no name")
	}
}

func TestNameEveryByte(t *testing.T) {
	everyByte(t, func(t *testing.T, b byte) {
		if want := isLetter(b); lexeme.Name(string([]byte{b})) != want {
			t.Errorf("byte %d as the first one: %v", b, !want)
		}
		want := isLetter(b) || isDigit(b) || b == '_'
		for at := 1; at < api.MaxName; at++ {
			s := []byte(strings.Repeat("x", api.MaxName))
			s[at] = b
			if lexeme.Name(string(s)) != want {
				t.Errorf("byte %d at %d: %v", b, at, !want)
			}
		}
	})
}

// P1.1: Words and Join.

func TestWords(t *testing.T) {
	for _, x := range []struct {
		line string
		want []string
	}{
		{"", nil},
		{" ", nil},
		{"    ", nil},
		{"a", []string{"a"}},
		{"open Q1", []string{"open", "Q1"}},
		{"  a  bc ", []string{"a", "bc"}},
		{" a", []string{"a"}},
		{"a ", []string{"a"}},
		{"a b c", []string{"a", "b", "c"}},
		{"a\tb", []string{"a\tb"}},
		{"a\nb c", []string{"a\nb", "c"}},
		{"a\u00a0b", []string{"a\u00a0b"}},
		{"\xff \x00", []string{"\xff", "\x00"}},
	} {
		if l := lexeme.Words(x.line); !slices.Equal(l, x.want) {
			t.Errorf("words of %q: %q", x.line, l)
		}
	}
}

func TestWordsEveryByte(t *testing.T) {
	everyByte(t, func(t *testing.T, b byte) {
		line := "a" + string([]byte{b}) + "c"
		want := []string{line}
		if b == 32 {
			want = []string{"a", "c"}
		}
		if l := lexeme.Words(line); !slices.Equal(l, want) {
			t.Errorf("words of %q: %q", line, l)
		}
	})
}

func TestJoin(t *testing.T) {
	for _, x := range []struct {
		words []string
		want  string
	}{
		{nil, ""},
		{[]string{}, ""},
		{[]string{"a"}, "a"},
		{[]string{"a", "bc", "d"}, "a bc d"},
		{[]string{"", ""}, " "},
		{[]string{"a ", " b"}, "a   b"},
	} {
		if s := lexeme.Join(x.words); s != x.want {
			t.Errorf("join of %q: %q", x.words, s)
		}
	}
}

// allStrings are all strings of at most n bytes out of some.
func allStrings(bytes string, n int) []string {
	all := []string{""}
	for from, length := 0, 1; length <= n; length++ {
		to := len(all)
		for _, s := range all[from:to] {
			for i := range len(bytes) {
				all = append(all, s+bytes[i:i+1])
			}
		}
		from = to
	}
	return all
}

func TestWordsOfJoinAreTheWords(t *testing.T) {
	words := allStrings("aé\n", 2)[1:]
	for _, a := range words {
		for _, b := range words {
			for _, l := range [][]string{{a}, {a, b}, {b, a, b}} {
				if got := lexeme.Words(lexeme.Join(l)); !slices.Equal(got, l) {
					t.Errorf("words of join of %q: %q", l, got)
				}
			}
		}
	}
}

func TestWordsOfAllShortLines(t *testing.T) {
	for _, line := range allStrings(" ab", 7) {
		var want []string
		for _, w := range strings.Split(line, " ") {
			if w != "" {
				want = append(want, w)
			}
		}
		if l := lexeme.Words(line); !slices.Equal(l, want) {
			t.Errorf("words of %q: %q", line, l)
		}
	}
}

func TestJoinLeavesItsArgument(t *testing.T) {
	l := []string{"a", "b"}
	s := lexeme.Join(l)
	if !slices.Equal(l, []string{"a", "b"}) {
		t.Errorf("the words became %q", l)
	}
	l[0] = "c"
	if s != "a b" {
		t.Errorf("the line became %q", s)
	}
}

func TestResultsAreNew(t *testing.T) {
	first, second := lexeme.Words("a b"), lexeme.Words("a b")
	first[0] = "c"
	if second[0] != "a" {
		t.Error("two results of Words share memory")
	}
	lines, _ := lexeme.Lines("a\nb\n")
	other, _ := lexeme.Lines("a\nb\n")
	lines[0] = "c"
	if other[0] != "a" {
		t.Error("two results of Lines share memory")
	}
}

// P1.2: Lines.

func TestLines(t *testing.T) {
	for _, x := range []struct {
		text string
		want []string
	}{
		{"", nil},
		{"\n", []string{""}},
		{"\n\n", []string{"", ""}},
		{"a\n", []string{"a"}},
		{"a\n\nb \n", []string{"a", "", "b "}},
		{" a b \n~!\n", []string{" a b ", "~!"}},
	} {
		if l, ok := lexeme.Lines(x.text); !ok || !slices.Equal(l, x.want) {
			t.Errorf("lines of %q: %q %v", x.text, l, ok)
		}
	}
}

func wantNoLines(t *testing.T, text string) {
	t.Helper()
	if l, ok := lexeme.Lines(text); ok || len(l) != 0 {
		t.Errorf("%.40q has no lines, not %.40q %v", text, l, ok)
	}
}

func TestLinesRejects(t *testing.T) {
	for _, s := range []string{"a", " ", "a\nb", "\na", "\n ", "a\r\n", "a\tb\n", "\x00\n", "\x1f\n", "\x7f\n", "\x80\n", "\xff\n", "é\n", "a\nb\x7f", "a\n\x00"} {
		wantNoLines(t, s)
	}
}

func TestLinesEveryByte(t *testing.T) {
	everyByte(t, func(t *testing.T, b byte) {
		text := "a" + string([]byte{b}) + "c\n"
		switch {
		case b == 10:
			if l, ok := lexeme.Lines(text); !ok || !slices.Equal(l, []string{"a", "c"}) {
				t.Errorf("lines of %q: %q %v", text, l, ok)
			}
		case 32 <= b && b <= 126:
			if l, ok := lexeme.Lines(text); !ok || !slices.Equal(l, []string{text[:3]}) {
				t.Errorf("lines of %q: %q %v", text, l, ok)
			}
		default:
			wantNoLines(t, text)
		}
	})
}

func TestLinesLimit(t *testing.T) {
	longest := strings.Repeat("a", api.MaxText-1) + "\n"
	if l, ok := lexeme.Lines(longest); !ok || len(l) != 1 || l[0] != longest[:api.MaxText-1] {
		t.Errorf("a text of api.MaxText bytes: %d lines, %v", len(l), ok)
	}
	if l, ok := lexeme.Lines(strings.Repeat("\n", api.MaxText)); !ok || len(l) != api.MaxText {
		t.Errorf("api.MaxText line feeds: %d lines, %v", len(l), ok)
	}
	wantNoLines(t, "a"+longest)
	wantNoLines(t, strings.Repeat("\n", api.MaxText+1))
	wantNoLines(t, strings.Repeat("a", 1<<20)+"\n")
}

// P1.3: Number and Text.

func TestNumber(t *testing.T) {
	for _, x := range []struct {
		s    string
		most int
		want int
	}{
		{"0", 0, 0},
		{"0", math.MaxInt, 0},
		{"1", 1, 1},
		{"9", 9, 9},
		{"10", 10, 10},
		{"42", 42, 42},
		{"42", 43, 42},
		{"100", math.MaxInt, 100},
		{"16777216", api.MaxTime, api.MaxTime},
		{strconv.Itoa(math.MaxInt), math.MaxInt, math.MaxInt},
		{strconv.Itoa(math.MaxInt - 1), math.MaxInt - 1, math.MaxInt - 1},
	} {
		if n, ok := lexeme.Number(x.s, x.most); n != x.want || !ok {
			t.Errorf("%q at most %d: %d %v", x.s, x.most, n, ok)
		}
	}
}

func wantNoNumber(t *testing.T, s string, most int) {
	t.Helper()
	if n, ok := lexeme.Number(s, most); n != 0 || ok {
		t.Errorf("%.40q at most %d: %d %v", s, most, n, ok)
	}
}

func TestNumberRejectsStrings(t *testing.T) {
	for _, s := range []string{"", " ", "00", "01", "07", "000", "-1", "-0", "+1", "+", "-", " 1", "1 ", "1x", "x1", "1_0", "0x1", "1.0", "1e3", "1\n", "1\x00", "１", "1\xff"} {
		for _, most := range []int{0, 9, 99, math.MaxInt} {
			wantNoNumber(t, s, most)
		}
	}
}

func TestNumberRejectsMoreThanMost(t *testing.T) {
	wantNoNumber(t, "1", 0)
	wantNoNumber(t, "10", 9)
	wantNoNumber(t, "43", 42)
	wantNoNumber(t, "50", 42)
	wantNoNumber(t, "420", 42)
	wantNoNumber(t, strconv.Itoa(math.MaxInt), math.MaxInt-1)
	for _, s := range []string{"9223372036854775808", "9223372036854775810", "18446744073709551615", "18446744073709551616", "18446744073709551617", "99999999999999999999", "1" + strings.Repeat("0", 1000)} {
		wantNoNumber(t, s, math.MaxInt)
		wantNoNumber(t, s, 9)
	}
}

func TestNumberOfNegativeMost(t *testing.T) {
	for _, most := range []int{-1, -2, -9, -10, -11, math.MinInt + 1, math.MinInt} {
		for _, s := range []string{"0", "1", "9", "10", "9223372036854775807", ""} {
			wantNoNumber(t, s, most)
		}
	}
}

func TestNumberEveryByte(t *testing.T) {
	everyByte(t, func(t *testing.T, b byte) {
		for _, s := range []string{string([]byte{b}), "1" + string([]byte{b}), string([]byte{b, '1'})} {
			n, err := strconv.ParseUint(s, 10, 63)
			if err != nil || s[0] == '0' && len(s) > 1 {
				wantNoNumber(t, s, math.MaxInt)
			} else if got, ok := lexeme.Number(s, math.MaxInt); got != int(n) || !ok {
				t.Errorf("%q: %d %v", s, got, ok)
			}
		}
	})
}

func TestNumberOfTextIsTheNumber(t *testing.T) {
	for most := range 130 {
		for n := range 140 {
			s := lexeme.Text(n)
			if n > most {
				wantNoNumber(t, s, most)
			} else if got, ok := lexeme.Number(s, most); got != n || !ok {
				t.Errorf("%q at most %d: %d %v", s, most, got, ok)
			}
		}
	}
	for shift := range 63 {
		for _, n := range []int{1<<shift - 1, 1 << shift, 1<<shift + 1} {
			if got, ok := lexeme.Number(lexeme.Text(n), n); got != n || !ok {
				t.Errorf("%d: %d %v", n, got, ok)
			}
			wantNoNumber(t, lexeme.Text(n), n-1)
		}
	}
}

func TestText(t *testing.T) {
	for _, x := range []struct {
		n    int
		want string
	}{
		{0, "0"},
		{7, "7"},
		{-7, "-7"},
		{10, "10"},
		{-10, "-10"},
		{1 << 16, "65536"},
		{math.MaxInt64, "9223372036854775807"},
		{math.MinInt64, "-9223372036854775808"},
	} {
		if s := lexeme.Text(x.n); s != x.want {
			t.Errorf("text of %d: %q", x.n, s)
		}
	}
}
