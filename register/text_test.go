package register_test

import (
	"fmt"
	"math/rand"
	"regexp"
	"slices"
	"strconv"
	"strings"
	"testing"

	"permitoffice/api"
	"permitoffice/register"
)

const staffText = "person Ann company 1 skills sh from 0/06:00 until 0/14:00\n" +
	"person Ann1 company 7 skills seiht from 0/00:00 until 11650/20:16\n" +
	"person AnnA company 0 skills t from 11650/20:15 until 11650/20:16\n" +
	"person Ann_ company 0 skills - from 0/00:00 until 0/00:01\n" +
	"person Anna company 2 skills ei from 1/00:00 until 10/10:00\n" +
	"person ann company 3 skills i from 0/00:07 until 1/00:07\n"

// sets are the LETTERS of all skills, by their bits.
var sets = []string{
	"-", "s", "e", "se", "i", "si", "ei", "sei", "h", "sh", "eh", "seh", "ih", "sih", "eih", "seih",
	"t", "st", "et", "set", "it", "sit", "eit", "seit", "ht", "sht", "eht", "seht", "iht", "siht", "eiht", "seiht",
}

// bob is the line of a person with some skills.
func bob(letters string) string {
	return "person Bob company 1 skills " + letters + " from 0/01:00 until 0/02:00\n"
}

func wantParse(t *testing.T, s string, want api.Register) {
	t.Helper()
	r, line, e := register.Parse(s)
	if line != 0 || e != api.OK || !same(r, want) {
		t.Errorf("%q: %v %d %v, not %v", s, r, line, e, want)
	}
}

func wantError(t *testing.T, s string, line int, want api.Errno) {
	t.Helper()
	r, at, e := register.Parse(s)
	if at != line || e != want || len(r.People) != 0 {
		t.Errorf("%.300q: %v %d %v, not %d %v", s, r, at, e, line, want)
	}
}

// P5.3: Print.

func wantPrint(t *testing.T, r api.Register, want string) {
	t.Helper()
	if s, e := register.Print(r); s != want || e != api.OK {
		t.Errorf("%v: %q %v, not %q", r, s, e, want)
	}
}

func TestPrint(t *testing.T) {
	wantPrint(t, staff(), staffText)
	wantPrint(t, api.Register{}, "")
	wantPrint(t, api.Register{People: []api.Person{}}, "")
	want := ""
	for _, p := range full().People {
		want += "person " + p.Name + " company 7 skills seiht from 11650/20:15 until 11650/20:16\n"
	}
	wantPrint(t, full(), want)
}

func TestPrintSkills(t *testing.T) {
	for skills, letters := range sets {
		p := somebody("Bob")
		p.Skills = skills
		wantPrint(t, api.Register{People: []api.Person{p}}, bob(letters))
	}
}

func TestPrintErrors(t *testing.T) {
	for _, x := range brokenRegisters() {
		if s, e := register.Print(x.r); s != "" || e != x.want {
			t.Errorf("%s: %q %v, not %v", brief(x.r), s, e, x.want)
		}
	}
}

// P5.3: Parse.

func TestParse(t *testing.T) {
	wantParse(t, staffText, staff())
	wantParse(t, "", api.Register{})
	wantParse(t, bob("e"), api.Register{People: []api.Person{somebody("Bob")}})
}

func TestParsePeopleInAnyOrder(t *testing.T) {
	lines := strings.SplitAfter(strings.TrimSuffix(staffText, "\n"), "\n")
	lines[len(lines)-1] += "\n"
	random := rand.New(rand.NewSource(50))
	for range 200 {
		random.Shuffle(len(lines), func(i, j int) { lines[i], lines[j] = lines[j], lines[i] })
		wantParse(t, strings.Join(lines, ""), staff())
	}
}

func TestParseSpacesAndLinesThatDoNotMatter(t *testing.T) {
	wantParse(t, "\n", api.Register{})
	wantParse(t, "   \n\n", api.Register{})
	wantParse(t, "#\n # person\n#person Bob\n  ## x\n", api.Register{})
	wantParse(t, "  person  Bob   company 1 skills e    from 0/01:00 until 0/02:00  \n", api.Register{People: []api.Person{somebody("Bob")}})
	wantParse(t, "# people\n\n"+strings.ReplaceAll(staffText, "\n", " \n  \n #"+bob("e")), staff())
	wantParse(t, strings.ReplaceAll(staffText, " ", "   "), staff())
}

func TestParseSkills(t *testing.T) {
	for skills, letters := range sets {
		p := somebody("Bob")
		p.Skills = skills
		wantParse(t, bob(letters), api.Register{People: []api.Person{p}})
	}
	// Every other word of these letters is none: letters in another order, or twice.
	words := []string{""}
	for len(words[0]) < 4 {
		var longer []string
		for _, w := range words {
			for _, letter := range "seiht-x" {
				longer = append(longer, w+string(letter))
			}
		}
		words = longer
		for _, w := range words {
			if !slices.Contains(sets, w) {
				wantError(t, bob(w), 1, api.ErrSyntax)
			}
		}
	}
	for _, w := range []string{"S", "seihts", "sseiht", "thies", "seiht-", "-seiht", "--", "0", "1", "s,e", "+", "switch", "_", "#"} {
		wantError(t, bob(w), 1, api.ErrSyntax)
	}
}

func TestParseTextsThatAreNone(t *testing.T) {
	for _, s := range []string{"x", " ", strings.TrimSuffix(staffText, "\n"), staffText + " ", "\t\n", "\r\n", "é\n", staffText + "\x7f\n", "x\n\x00\n", strings.Repeat("\n", api.MaxText+1)} {
		wantError(t, s, 0, api.ErrSyntax)
	}
	wantParse(t, strings.Repeat("\n", api.MaxText-len(staffText))+staffText, staff())
}

func TestParseLinesWithoutTheForm(t *testing.T) {
	for _, line := range []string{
		"person", "person Bob", "Bob", "x", "people Bob company 1 skills e from 0/01:00 until 0/02:00",
		"Person Bob company 1 skills e from 0/01:00 until 0/02:00",
		"person Bob Company 1 skills e from 0/01:00 until 0/02:00",
		"person Bob company 1 skill e from 0/01:00 until 0/02:00",
		"person Bob company 1 skills e until 0/01:00 from 0/02:00",
		"person Bob company 1 skills e from 0/01:00 to 0/02:00",
		"person Bob company 1 skills e from 0/01:00 until",
		"person Bob company 1 skills e from 0/01:00",
		"person Bob company 1 skills from 0/01:00 until 0/02:00",
		"person company 1 skills e from 0/01:00 until 0/02:00",
		"Bob company 1 skills e from 0/01:00 until 0/02:00",
		"person Bob company 1 skills e from 0/01:00 until 0/02:00 x",
		"person Bob company 1 skills e from 0/01:00 until 0/02:00 #",
		"person Bob company 1 skills e from 0/01:00 until 0/02:00 company 1",
		"person Bob company 1 skills s e from 0/01:00 until 0/02:00",
		"person Bob skills e company 1 from 0/01:00 until 0/02:00",
		"person person Bob company 1 skills e from 0/01:00 until 0/02:00",
		"x # person", "!#",
	} {
		wantError(t, line+"\n", 1, api.ErrSyntax)
		wantError(t, staffText+"\n# note\n"+line+"\nx\n", 9, api.ErrSyntax)
	}
}

func TestParseCompanies(t *testing.T) {
	line := func(company string) string {
		return "person Bob company " + company + " skills e from 0/01:00 until 0/02:00\n"
	}
	for company := range 8 {
		p := somebody("Bob")
		p.Company = company
		wantParse(t, line(strconv.Itoa(company)), api.Register{People: []api.Person{p}})
	}
	// Such numbers have the form, but are no companies.
	for _, s := range []string{"8", "10", "1073741823", "1073741824"} {
		wantError(t, line(s), 1, api.ErrRange)
	}
	for _, s := range []string{"00", "01", "-1", "-0", "+1", "1_0", "0x1", "1.0", "1e3", "x", "1073741825", "2147483648", "9223372036854775808", "18446744073709551617", strings.Repeat("1", 100)} {
		wantError(t, line(s), 1, api.ErrSyntax)
	}
}

func TestParseTimes(t *testing.T) {
	line := func(from, until string) string {
		return "person Bob company 1 skills e from " + from + " until " + until + "\n"
	}
	for _, s := range []string{"0", "60", "01:00", "0/1:00", "0/01:0", "00/01:00", "0/24:00", "0/01:60", "-1/01:00", "0/01:00x", "0/01/00", "11650/20:17", "11651/00:00", "99999999999999999999/00:00", "/01:00", "0/:00", "-"} {
		wantError(t, line(s, "0/02:00"), 1, api.ErrSyntax)
		wantError(t, line("0/01:00", s), 1, api.ErrSyntax)
	}
	// Such times have the form, but are no span.
	for _, x := range [][2]string{{"0/02:00", "0/02:00"}, {"0/02:00", "0/01:59"}, {"0/00:00", "0/00:00"}, {"11650/20:16", "11650/20:16"}, {"11650/20:16", "0/00:00"}} {
		wantError(t, line(x[0], x[1]), 1, api.ErrTime)
	}
}

func TestParseNames(t *testing.T) {
	line := func(name string) string {
		return "person " + name + " company 1 skills e from 0/01:00 until 0/02:00\n"
	}
	for _, name := range []string{"person", "company", "skills", "from", "until", "a", "Abcdefghijkl", "B_2"} {
		wantParse(t, line(name), api.Register{People: []api.Person{somebody(name)}})
	}
	for _, name := range []string{"9", "_", "#", "#Bob", "-", "B-b", "0/01:00", "Abcdefghijklm", strings.Repeat("a", 1000)} {
		wantError(t, line(name), 1, api.ErrName)
		wantError(t, staffText+line(name)+"x\n", 7, api.ErrName)
	}
}

func TestParseTheFirstErrorOfALine(t *testing.T) {
	wantError(t, "person 9 company 8 skills e from 0/02:00 until 0/02:00\n", 1, api.ErrName)
	wantError(t, "person Bob company 8 skills e from 0/02:00 until 0/02:00\n", 1, api.ErrRange)
	wantError(t, "person 9 company 8 skills x from 0/02:00 until 0/02:00\n", 1, api.ErrSyntax)
	wantError(t, "person 9 company 8 skills e from 0/02:00 until 0/2:00\n", 1, api.ErrSyntax)
	wantError(t, bob("e")+"person Bob company 1 skills e from 0/02:00 until 0/02:00\n", 2, api.ErrTime)
	wantError(t, bob("e")+bob("s"), 2, api.ErrTwice)
	wantError(t, bob("e")+bob("x"), 2, api.ErrSyntax)
	wantError(t, staffText+"#\n"+bob("e")+bob("e")+"x\n", 9, api.ErrTwice)
	wantError(t, "\n"+staffText+staffText, 8, api.ErrTwice)
}

func TestParseUpToTheLimit(t *testing.T) {
	text, _ := register.Print(full())
	wantParse(t, text, full())
	wantError(t, text+bob("e"), api.MaxPeople+1, api.ErrLimit)
	wantError(t, "# note\n"+text+"\n"+bob("e")+"x\n", api.MaxPeople+3, api.ErrLimit)
	wantError(t, bob("e")+text, api.MaxPeople+1, api.ErrLimit)
	// What is wrong with the line itself comes first.
	wantError(t, text+bob("x"), api.MaxPeople+1, api.ErrSyntax)
	wantError(t, text+"person 9 company 1 skills e from 0/01:00 until 0/02:00\n", api.MaxPeople+1, api.ErrName)
	wantError(t, text+text, api.MaxPeople+1, api.ErrTwice)
}

// The forms of lines, read in another way than the layer does.
var (
	idleForm   = regexp.MustCompile(`^ *(#.*)?$`)
	personForm = regexp.MustCompile(`^ *person +([^ ]+) +company +(0|[1-9][0-9]*) +skills +(-|s?e?i?h?t?) +from +(0|[1-9][0-9]*)/([0-9][0-9]):([0-9][0-9]) +until +(0|[1-9][0-9]*)/([0-9][0-9]):([0-9][0-9]) *$`)
	nameForm   = regexp.MustCompile(`^[A-Za-z][A-Za-z0-9_]{0,11}$`)
)

// minute returns the time of a day, an hour and a minute, or -1.
func minute(words []string) int {
	day, _ := strconv.Atoi(words[0])
	hour, _ := strconv.Atoi(words[1])
	minute, _ := strconv.Atoi(words[2])
	if t := day*1440 + hour*60 + minute; hour < 24 && minute < 60 && t <= api.MaxTime {
		return t
	}
	return -1
}

// readWithForms is Parse with regular expressions and a map.
func readWithForms(s string) (api.Register, int, api.Errno) {
	var r api.Register
	known := map[string]bool{}
	for i, line := range strings.Split(strings.TrimSuffix(s, "\n"), "\n") {
		if idleForm.MatchString(line) {
			continue
		}
		m := personForm.FindStringSubmatch(line)
		if m == nil || minute(m[4:7]) < 0 || minute(m[7:10]) < 0 {
			return api.Register{}, i + 1, api.ErrSyntax
		}
		company, _ := strconv.Atoi(m[2])
		p := api.Person{Name: m[1], Company: company, Skills: slices.Index(sets, m[3]), From: minute(m[4:7]), Until: minute(m[7:10])}
		e := api.OK
		switch {
		case company > 1<<30:
			e = api.ErrSyntax
		case !nameForm.MatchString(p.Name):
			e = api.ErrName
		case company > 7:
			e = api.ErrRange
		case p.From >= p.Until:
			e = api.ErrTime
		case known[p.Name]:
			e = api.ErrTwice
		case len(known) == 64:
			e = api.ErrLimit
		}
		if e != api.OK {
			return api.Register{}, i + 1, e
		}
		known[p.Name] = true
		r.People = append(r.People, p)
	}
	slices.SortFunc(r.People, func(a, b api.Person) int { return strings.Compare(a.Name, b.Name) })
	return r, 0, api.OK
}

// randomText returns lines that mostly have their form.
func randomText(random *rand.Rand) string {
	pick := func(words ...string) string { return words[random.Intn(len(words))] }
	time := func(day int) string {
		return fmt.Sprintf("%d/%02d:%02d", day, random.Intn(24), random.Intn(60))
	}
	var text strings.Builder
	for range 1 + random.Intn(6) {
		words := []string{
			"person", fmt.Sprintf("%s%d", pick("A", "B", "a", "b_"), random.Intn(20)), "company", strconv.Itoa(random.Intn(8)),
			"skills", sets[random.Intn(32)], "from", time(random.Intn(4)), "until", time(2 + random.Intn(4)),
		}
		switch random.Intn(50) {
		case 0:
			words = words[:random.Intn(len(words))]
		case 1:
			words = append(words, pick("x", "#", "company", "0"))
		case 2:
			words[random.Intn(len(words))] = pick("#", "person", "company", "-", "0", "0/24:00", "11650/20:16", "11650/20:17", "8")
		case 3:
			words = slices.Insert(words, 0, pick("#", "# ", "#note", ""))
		case 4:
			words[3] = pick("8", "07", "1073741824", "1073741825")
		case 5:
			words[1] = pick("9", "A-", "_a", "Abcdefghijklm")
		}
		text.WriteString(strings.Join(words, pick(" ", " ", "  ")) + pick("\n", "\n", " \n", "\n\n"))
	}
	return text.String()
}

func TestParseRandomTexts(t *testing.T) {
	random := rand.New(rand.NewSource(505))
	ends := map[api.Errno]int{}
	for range 30000 {
		s := randomText(random)
		want, wantLine, wantE := readWithForms(s)
		ends[wantE]++
		if wantE != api.OK {
			wantError(t, s, wantLine, wantE)
		} else {
			wantParse(t, s, want)
		}
		if t.Failed() {
			return
		}
	}
	for _, e := range []api.Errno{api.OK, api.ErrSyntax, api.ErrName, api.ErrTwice, api.ErrTime, api.ErrRange} {
		if ends[e] < 50 {
			t.Errorf("only %d texts end with %v", ends[e], e)
		}
	}
}

// The chapter's consequence: Parse of Print is the register.

func TestParseOfPrint(t *testing.T) {
	random := rand.New(rand.NewSource(555))
	registers := []api.Register{{}, staff(), full()}
	for range 1000 {
		registers = append(registers, randomRegister(random))
	}
	for _, r := range registers {
		s, e := register.Print(r)
		if e != api.OK {
			t.Fatalf("%v: %v", r, e)
		}
		wantParse(t, s, r)
		if t.Failed() {
			return
		}
	}
}

// R1 and R2: nothing is shared, and nothing panics.

func TestTextsShareNothing(t *testing.T) {
	r := staff()
	wantPrint(t, r, staffText)
	if !same(r, staff()) {
		t.Errorf("the register became %v", r)
	}
	first, _, _ := register.Parse(staffText)
	second, _, _ := register.Parse(staffText)
	first.People[0].Name = "X"
	if !same(second, staff()) {
		t.Error("registers share memory")
	}
}

func TestNothingPanicsOfDamagedTexts(t *testing.T) {
	random := rand.New(rand.NewSource(5555))
	for range 20000 {
		text := []byte(staffText)
		for range 1 + random.Intn(3) {
			at := random.Intn(len(text))
			switch random.Intn(3) {
			case 0:
				text[at] = byte(random.Intn(256))
			case 1:
				text = slices.Delete(text, at, at+1)
			case 2:
				text = text[:len(text)-at/2]
			}
		}
		r, line, e := register.Parse(string(text))
		if e != api.OK && (line < 0 || line > 9 || len(r.People) != 0) {
			t.Fatalf("%q: %v %d %v", text, r, line, e)
		}
		if e == api.OK && (line != 0 || register.Check(r) != api.OK) {
			t.Fatalf("%q: %v %d", text, r, line)
		}
	}
}
