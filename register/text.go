package register

import (
	"permitoffice/api"
	"permitoffice/calendar"
	"permitoffice/lexeme"
)

// keywords are every second word of a line, each before its value.
var keywords = [...]string{"person", "company", "skills", "from", "until"}

const (
	// skillLetters are the letters of the skills, in the order of their bits.
	skillLetters = "seiht"
	noSkills     = "-"
	comment      = '#'
	// mostNumber is more than any company: a number beyond api.MaxCompany can be read, and is an error of the person.
	mostNumber = 1 << 30
)

// Print returns the lines of a register.
func Print(r api.Register) (string, api.Errno) {
	if e := Check(r); e != api.OK {
		return "", e
	}
	text := ""
	for _, p := range r.People {
		text += lineOf(p) + "\n"
	}
	return text, api.OK
}

// lineOf returns the line of a valid person.
func lineOf(p api.Person) string {
	values := []string{p.Name, lexeme.Text(p.Company), lettersOf(p.Skills), timeText(p.From), timeText(p.Until)}
	var words []string
	for i, keyword := range keywords {
		words = append(words, keyword, values[i])
	}
	return lexeme.Join(words)
}

func lettersOf(skills int) string {
	letters := ""
	for bit := range len(skillLetters) {
		if skills>>bit&1 == 1 {
			letters += skillLetters[bit : bit+1]
		}
	}
	if letters == "" {
		return noSkills
	}
	return letters
}

func timeText(t int) string {
	// Both ends of a valid span are times, which have a text.
	text, _ := calendar.Print(t)
	return text
}

// Parse returns the register that a text describes, or the number of a line (0 for the whole text) and its error.
func Parse(s string) (api.Register, int, api.Errno) {
	lines, ok := lexeme.Lines(s)
	if !ok {
		return api.Register{}, 0, api.ErrSyntax
	}
	var r api.Register
	for i, line := range lines {
		next, e := addLine(r, lexeme.Words(line))
		if e != api.OK {
			return api.Register{}, i + 1, e
		}
		r = next
	}
	return r, 0, api.OK
}

// addLine returns a register with the person more that the words of a line describe, if they describe one.
func addLine(r api.Register, words []string) (api.Register, api.Errno) {
	if len(words) == 0 || words[0][0] == comment {
		return r, api.OK
	}
	p, ok := personOf(words)
	if !ok {
		return api.Register{}, api.ErrSyntax
	}
	return Add(r, p)
}

// personOf returns the person, valid or not, that the words of a line describe.
func personOf(words []string) (api.Person, bool) {
	if len(words) != 2*len(keywords) {
		return api.Person{}, false
	}
	for i, keyword := range keywords {
		if words[2*i] != keyword {
			return api.Person{}, false
		}
	}
	company, hasCompany := lexeme.Number(words[3], mostNumber)
	skills, hasSkills := skillsOf(words[5])
	from, fromError := calendar.Parse(words[7])
	until, untilError := calendar.Parse(words[9])
	if !hasCompany || !hasSkills || fromError != api.OK || untilError != api.OK {
		return api.Person{}, false
	}
	return api.Person{Name: words[1], Company: company, Skills: skills, From: from, Until: until}, true
}

// skillsOf returns the skills that are written like this.
func skillsOf(letters string) (int, bool) {
	for skills := range allSkills + 1 {
		if lettersOf(skills) == letters {
			return skills, true
		}
	}
	return 0, false
}
