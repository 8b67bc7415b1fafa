package register_test

import (
	"fmt"
	"math"
	"math/rand"
	"slices"
	"strings"
	"testing"

	"permitoffice/api"
	"permitoffice/register"
)

const every = api.SkillSwitch | api.SkillEarth | api.SkillIssue | api.SkillHold | api.SkillTest

// staff returns a valid register; its names ascend by bytes, not by an alphabet.
func staff() api.Register {
	return api.Register{People: []api.Person{
		{Name: "Ann", Company: 1, Skills: api.SkillSwitch | api.SkillHold, From: 360, Until: 840},
		{Name: "Ann1", Company: api.MaxCompany, Skills: every, From: 0, Until: api.MaxTime},
		{Name: "AnnA", Skills: api.SkillTest, From: api.MaxTime - 1, Until: api.MaxTime},
		{Name: "Ann_", From: 0, Until: 1},
		{Name: "Anna", Company: 2, Skills: api.SkillEarth | api.SkillIssue, From: 1440, Until: 15000},
		{Name: "ann", Company: 3, Skills: api.SkillIssue, From: 7, Until: 1447},
	}}
}

// changed returns the staff after a change.
func changed(change func(l []api.Person)) api.Register {
	r := staff()
	change(r.People)
	return r
}

// full returns a register at all limits, with the longest lines.
func full() api.Register {
	var r api.Register
	for i := range api.MaxPeople {
		r.People = append(r.People, api.Person{Name: fmt.Sprintf("Person_%05d", 2*i), Company: api.MaxCompany, Skills: every, From: api.MaxTime - 1, Until: api.MaxTime})
	}
	return r
}

// somebody returns a valid person.
func somebody(name string) api.Person {
	return api.Person{Name: name, Company: 1, Skills: api.SkillEarth, From: 60, Until: 120}
}

// randomRegister returns a valid register.
func randomRegister(r *rand.Rand) api.Register {
	var names []string
	for range r.Intn(api.MaxPeople + 1) {
		name := []byte{"ABZabz"[r.Intn(6)]}
		for range r.Intn(4) {
			name = append(name, "A_a0"[r.Intn(4)])
		}
		names = append(names, string(name))
	}
	slices.Sort(names)
	var s api.Register
	for _, name := range slices.Compact(names) {
		from := r.Intn(api.MaxTime)
		s.People = append(s.People, api.Person{Name: name, Company: r.Intn(8), Skills: r.Intn(32), From: from, Until: from + 1 + r.Intn(api.MaxTime-from)})
	}
	return s
}

// brief returns the beginning of what is printed of a register.
func brief(r api.Register) string {
	return fmt.Sprintf("%.300s", fmt.Sprint(r))
}

func same(a, b api.Register) bool {
	return slices.Equal(a.People, b.People)
}

// A wrong is a person, or a register of one, that is not valid, with its first error.
type wrong struct {
	p    api.Person
	want api.Errno
}

// wrongs returns people with one error, and people with several ones.
func wrongs() []wrong {
	var l []wrong
	add := func(want api.Errno, change func(p *api.Person)) {
		p := somebody("Bob")
		change(&p)
		l = append(l, wrong{p, want})
	}
	for _, name := range []string{"", "9", "_a", "B b", " Bob", "Bob ", "Bob\n", "B-b", "Bób", "Abcdefghijklm", strings.Repeat("a", 1000), "Bob\x00", "\xff"} {
		add(api.ErrName, func(p *api.Person) { p.Name = name })
		add(api.ErrName, func(p *api.Person) { p.Name, p.Company, p.Skills, p.From = name, 8, 32, 120 })
	}
	for _, company := range []int{-1, 8, 9, -8, 1 << 32, math.MinInt, math.MaxInt} {
		add(api.ErrRange, func(p *api.Person) { p.Company = company })
		add(api.ErrRange, func(p *api.Person) { p.Company, p.Skills, p.Until = company, -1, 60 })
	}
	for _, skills := range []int{-1, -32, 32, 33, 63, 64, 1 << 31, 1 << 32, math.MinInt, math.MinInt + 1, math.MaxInt} {
		add(api.ErrRange, func(p *api.Person) { p.Skills = skills })
		add(api.ErrRange, func(p *api.Person) { p.Skills, p.From = skills, -1 })
	}
	for _, span := range [][2]int{
		{60, 60}, {60, 59}, {0, 0}, {-1, 60}, {-1, 0}, {0, api.MaxTime + 1}, {api.MaxTime, api.MaxTime}, {api.MaxTime, api.MaxTime + 1},
		{0, -1}, {math.MinInt, math.MaxInt}, {math.MaxInt, math.MinInt}, {0, math.MinInt}, {math.MinInt, 60}, {0, math.MaxInt}, {math.MaxInt, math.MaxInt},
	} {
		add(api.ErrTime, func(p *api.Person) { p.From, p.Until = span[0], span[1] })
	}
	return l
}

// A broken is a register that is not valid, with its first error.
type broken struct {
	r    api.Register
	want api.Errno
}

func brokenRegisters() []broken {
	tooMany := full()
	tooMany.People = append(tooMany.People, somebody("Z"))
	withErrors := full()
	withErrors.People = append([]api.Person{{Name: "9"}}, withErrors.People...)
	l := []broken{
		{tooMany, api.ErrLimit},
		{withErrors, api.ErrLimit},
		{api.Register{People: make([]api.Person, 1000)}, api.ErrLimit},
		{api.Register{People: make([]api.Person, api.MaxPeople)}, api.ErrName},
		{changed(func(l []api.Person) { l[0], l[1] = l[1], l[0] }), api.ErrTwice},
		{changed(func(l []api.Person) { l[4], l[5] = l[5], l[4] }), api.ErrTwice},
		{changed(func(l []api.Person) { l[1].Name = "Ann" }), api.ErrTwice},
		{changed(func(l []api.Person) { l[5].Name = "Ann_" }), api.ErrTwice},
		{changed(func(l []api.Person) { l[0].Name = "b" }), api.ErrTwice},
		{changed(func(l []api.Person) { l[1] = l[0] }), api.ErrTwice},
		// Everything of a person comes before the order, and before the next person.
		{changed(func(l []api.Person) { l[1].Name, l[1].Until = "Ann", 0 }), api.ErrTime},
		{changed(func(l []api.Person) { l[1].Name, l[1].Company = "Ann", 8 }), api.ErrRange},
		{changed(func(l []api.Person) { l[1].Name, l[1].Skills = "Ann", 32 }), api.ErrRange},
		{changed(func(l []api.Person) { l[1].Name, l[2].Name = "Ann", "" }), api.ErrTwice},
		{changed(func(l []api.Person) { l[3].Until, l[4].Name = 0, "" }), api.ErrTime},
		{changed(func(l []api.Person) { l[3].Until, l[4].Name = 1, "" }), api.ErrName},
		{changed(func(l []api.Person) { l[0].Company, l[1].Name = -1, "Ann" }), api.ErrRange},
		{changed(func(l []api.Person) { l[0].Skills, l[1].Name = 32, "" }), api.ErrRange},
	}
	for _, x := range wrongs() {
		l = append(l, broken{api.Register{People: []api.Person{x.p}}, x.want})
		for i := range staff().People {
			l = append(l, broken{changed(func(l []api.Person) { l[i] = x.p }), x.want})
		}
	}
	return l
}

// P5.1: Check.

func TestCheck(t *testing.T) {
	for _, r := range []api.Register{{}, {People: []api.Person{}}, staff(), full(), {People: []api.Person{somebody("B")}}, {People: []api.Person{somebody("Abcdefghijkl")}}} {
		if e := register.Check(r); e != api.OK {
			t.Errorf("%v: %v", r, e)
		}
	}
	for company := range 8 {
		for skills := range 32 {
			p := somebody("Bob")
			p.Company, p.Skills = company, skills
			if e := register.Check(api.Register{People: []api.Person{p}}); e != api.OK {
				t.Errorf("%v: %v", p, e)
			}
		}
	}
}

func TestCheckErrors(t *testing.T) {
	for _, x := range brokenRegisters() {
		if e := register.Check(x.r); e != x.want {
			t.Errorf("%s: %v, not %v", brief(x.r), e, x.want)
		}
	}
}

func TestCheckComparesNamesByTheirBytes(t *testing.T) {
	names := []string{"A", "A0", "A00", "A9", "AA", "AZ", "A_", "Aa", "Az", "B", "Z", "Zz", "a", "aB", "a_", "aa", "z", "zzzzzzzzzzzz"}
	for i, a := range names {
		for j, b := range names {
			want := api.ErrTwice
			if i < j {
				want = api.OK
			}
			if e := register.Check(api.Register{People: []api.Person{somebody(a), somebody(b)}}); e != want {
				t.Errorf("%s before %s: %v, not %v", a, b, e, want)
			}
		}
	}
}

// P5.1: Find.

func TestFind(t *testing.T) {
	for _, r := range []api.Register{staff(), full()} {
		for i, p := range r.People {
			if at := register.Find(r, p.Name); at != i {
				t.Errorf("%s is %d, not %d", p.Name, at, i)
			}
		}
	}
	for _, name := range []string{"", "A", "An", "Ann0", "Ann2", "AnnB", "Annaa", "anna", "ANN", "Bob", "z", "9", "Ann ", " Ann", "Ann\x00", "\xff", strings.Repeat("Ann", 100)} {
		if at := register.Find(staff(), name); at != -1 {
			t.Errorf("%q is %d", name, at)
		}
		if at := register.Find(api.Register{}, name); at != -1 {
			t.Errorf("%q is %d in an empty register", name, at)
		}
	}
}

func TestFindInRegistersThatAreNotValid(t *testing.T) {
	for _, x := range brokenRegisters() {
		for _, p := range x.r.People {
			if at := register.Find(x.r, p.Name); at != -1 {
				t.Fatalf("%q is %d in %s", p.Name, at, brief(x.r))
			}
		}
	}
}

func TestFindInRandomRegisters(t *testing.T) {
	random := rand.New(rand.NewSource(5))
	for range 500 {
		r, other := randomRegister(random), randomRegister(random)
		for _, p := range slices.Concat(r.People, other.People) {
			want := slices.IndexFunc(r.People, func(q api.Person) bool { return q.Name == p.Name })
			if at := register.Find(r, p.Name); at != want {
				t.Fatalf("%s is %d, not %d, in %v", p.Name, at, want, r)
			}
		}
	}
}

// P5.1: Can.

// has reports bit by bit whether somebody has skills that exist.
func has(skills, wanted int) bool {
	if wanted < 1 || wanted > 31 {
		return false
	}
	for bit := 1; bit < 32; bit *= 2 {
		if wanted/bit%2 == 1 && skills/bit%2 == 0 {
			return false
		}
	}
	return true
}

func TestCanSkills(t *testing.T) {
	wanted := []int{math.MinInt, math.MinInt + 1, -64, -33, -32, -31, -2, -1, 64, 65, 1 << 31, 1<<32 + 1, math.MaxInt}
	for skills := range 64 {
		wanted = append(wanted, skills)
	}
	for skills := range 32 {
		p := somebody("Bob")
		p.Skills = skills
		r := api.Register{People: []api.Person{somebody("Ann"), p, somebody("Eve")}}
		for _, w := range wanted {
			if want := has(skills, w); register.Can(r, "Bob", w, 60) != want {
				t.Errorf("skills %d of %d: %v", w, skills, !want)
			}
		}
	}
}

func TestCanTimes(t *testing.T) {
	r := staff()
	for _, p := range r.People {
		skill := p.Skills
		for _, time := range []int{p.From - 1, p.From, p.From + 1, p.Until - 2, p.Until - 1, p.Until, p.Until + 1, 0, -1, api.MaxTime, api.MaxTime + 1, math.MinInt, math.MaxInt} {
			want := skill != 0 && p.From <= time && time <= p.Until-1
			if register.Can(r, p.Name, skill, time) != want {
				t.Errorf("%s at %d: %v", p.Name, time, !want)
			}
		}
	}
}

func TestCanUntilTheEndOfAShift(t *testing.T) {
	// The chapter's example: from 0/06:00 until 0/14:00.
	for time, want := range map[int]bool{359: false, 360: true, 839: true, 840: false} {
		if register.Can(staff(), "Ann", api.SkillSwitch, time) != want {
			t.Errorf("at %d: %v", time, !want)
		}
	}
}

func TestCanOfNobody(t *testing.T) {
	for _, name := range []string{"", "A", "Bob", "ANN", "Ann ", "zoe"} {
		for _, skills := range []int{0, 1, 31} {
			if register.Can(staff(), name, skills, 400) || register.Can(api.Register{}, name, skills, 400) {
				t.Errorf("%q can %d", name, skills)
			}
		}
	}
}

func TestCanInRegistersThatAreNotValid(t *testing.T) {
	for _, x := range brokenRegisters() {
		for _, p := range x.r.People {
			if register.Can(x.r, p.Name, p.Skills, p.From) || register.Can(x.r, p.Name, 1, p.From) {
				t.Fatalf("%q can do something in %s", p.Name, brief(x.r))
			}
		}
	}
}

// P5.2: Add.

func wantAdd(t *testing.T, r api.Register, p api.Person, want api.Register) {
	t.Helper()
	if s, e := register.Add(r, p); e != api.OK || !same(s, want) {
		t.Errorf("%v and %v: %v %v, not %v", r, p, s, e, want)
	}
}

func wantNoAdd(t *testing.T, r api.Register, p api.Person, want api.Errno) {
	t.Helper()
	if s, e := register.Add(r, p); e != want || len(s.People) != 0 {
		t.Errorf("%s and %v: %s %v, not %v", brief(r), p, brief(s), e, want)
	}
}

func TestAdd(t *testing.T) {
	for name, at := range map[string]int{"A": 0, "An": 0, "Ann0": 1, "Ann2": 2, "AnnB": 3, "Ann_0": 4, "Annaa": 5, "B": 5, "Z": 5, "a": 5, "ann0": 6, "z": 6} {
		wantAdd(t, staff(), somebody(name), api.Register{People: slices.Insert(staff().People, at, somebody(name))})
	}
	wantAdd(t, api.Register{}, somebody("Bob"), api.Register{People: []api.Person{somebody("Bob")}})
	wantAdd(t, api.Register{People: []api.Person{}}, somebody("Bob"), api.Register{People: []api.Person{somebody("Bob")}})
	for _, p := range staff().People {
		wantAdd(t, api.Register{}, p, api.Register{People: []api.Person{p}})
	}
}

func TestAddUpToTheLimit(t *testing.T) {
	for i := range api.MaxPeople {
		r := full()
		p := r.People[i]
		r.People = slices.Delete(r.People, i, i+1)
		wantAdd(t, r, p, full())
	}
	for i := range api.MaxPeople {
		wantNoAdd(t, full(), somebody(fmt.Sprintf("Person_%05d", 2*i+1)), api.ErrLimit)
	}
	wantNoAdd(t, full(), somebody("A"), api.ErrLimit)
	wantNoAdd(t, full(), somebody("Z"), api.ErrLimit)
}

func TestAddErrors(t *testing.T) {
	for _, p := range staff().People {
		wantNoAdd(t, staff(), somebody(p.Name), api.ErrTwice)
		wantNoAdd(t, staff(), p, api.ErrTwice)
	}
	// Somebody who is there comes before the limit, and the person's own errors before both.
	for _, p := range full().People {
		wantNoAdd(t, full(), somebody(p.Name), api.ErrTwice)
		p.Until = p.From
		wantNoAdd(t, full(), p, api.ErrTime)
		p.Skills = 32
		wantNoAdd(t, full(), p, api.ErrRange)
	}
	for _, x := range wrongs() {
		wantNoAdd(t, api.Register{}, x.p, x.want)
		wantNoAdd(t, staff(), x.p, x.want)
		wantNoAdd(t, full(), x.p, x.want)
		p := x.p
		if p.Name == "Bob" {
			p.Name = "Ann"
			wantNoAdd(t, staff(), p, x.want)
		}
	}
}

func TestAddToRegistersThatAreNotValid(t *testing.T) {
	for _, x := range brokenRegisters() {
		for _, p := range []api.Person{somebody("Eve"), somebody("Ann"), {}, {Name: "Eve", Company: 8}, {Name: "Eve"}} {
			wantNoAdd(t, x.r, p, x.want)
		}
	}
}

// P5.2: Remove.

func wantNoRemove(t *testing.T, r api.Register, name string, want api.Errno) {
	t.Helper()
	if s, e := register.Remove(r, name); e != want || len(s.People) != 0 {
		t.Errorf("%s without %q: %s %v, not %v", brief(r), name, brief(s), e, want)
	}
}

func TestRemove(t *testing.T) {
	for _, r := range []api.Register{staff(), full(), {People: []api.Person{somebody("Bob")}}} {
		for i, p := range r.People {
			want := api.Register{People: slices.Concat(r.People[:i], r.People[i+1:])}
			if s, e := register.Remove(r, p.Name); e != api.OK || !same(s, want) {
				t.Errorf("%v without %s: %v %v, not %v", r, p.Name, s, e, want)
			}
		}
	}
}

func TestRemoveErrors(t *testing.T) {
	for _, name := range []string{"", "A", "An", "Ann0", "anna", "ANN", "Bob", "z", "9", "Ann ", "\xff"} {
		wantNoRemove(t, staff(), name, api.ErrNone)
		wantNoRemove(t, full(), name, api.ErrNone)
		wantNoRemove(t, api.Register{}, name, api.ErrNone)
	}
	for _, x := range brokenRegisters() {
		wantNoRemove(t, x.r, "Eve", x.want)
		for _, p := range x.r.People {
			wantNoRemove(t, x.r, p.Name, x.want)
		}
	}
}

// The chapter's consequence: Remove behind Add is the register.

func TestRemoveBehindAdd(t *testing.T) {
	random := rand.New(rand.NewSource(55))
	added := 0
	for range 500 {
		r := randomRegister(random)
		for _, p := range randomRegister(random).People {
			s, e := register.Add(r, p)
			switch {
			case register.Find(r, p.Name) != -1:
				wantNoAdd(t, r, p, api.ErrTwice)
			case len(r.People) == api.MaxPeople:
				wantNoAdd(t, r, p, api.ErrLimit)
			default:
				added++
				at := register.Find(s, p.Name)
				if e != api.OK || register.Check(s) != api.OK || len(s.People) != len(r.People)+1 || at == -1 || s.People[at] != p {
					t.Fatalf("%v and %v: %v %v", r, p, s, e)
				}
				if back, e := register.Remove(s, p.Name); e != api.OK || !same(back, r) {
					t.Fatalf("%v comes back as %v %v", r, back, e)
				}
			}
		}
	}
	if added < 5000 {
		t.Errorf("only %d people were added", added)
	}
}

// R2: nothing is changed, kept or shared.

// TestSpareMemoryIsNotUsed gives registers that are parts of longer lists.
func TestSpareMemoryIsNotUsed(t *testing.T) {
	list := staff().People
	r := api.Register{People: list[:3]}
	for _, name := range []string{"A", "AnnB"} {
		if s, e := register.Add(r, somebody(name)); e != api.OK || len(s.People) != 4 {
			t.Errorf("%v %v", s, e)
		}
	}
	for _, name := range []string{"Ann", "AnnA"} {
		if s, e := register.Remove(r, name); e != api.OK || len(s.People) != 2 {
			t.Errorf("%v %v", s, e)
		}
	}
	if s, e := register.Add(api.Register{People: list[:0]}, somebody("A")); e != api.OK || len(s.People) != 1 {
		t.Errorf("%v %v", s, e)
	}
	if !slices.Equal(list, staff().People) {
		t.Errorf("the list became %v", list)
	}
}

func TestResultsShareNothing(t *testing.T) {
	r := staff()
	change := func(s api.Register) {
		for i := range s.People {
			s.People[i].Name = "Changed"
		}
		s.People = append(s.People, somebody("More"))
	}
	for _, p := range r.People {
		first, _ := register.Remove(r, p.Name)
		second, _ := register.Remove(r, p.Name)
		change(first)
		if back, e := register.Add(second, p); e != api.OK || !same(back, staff()) {
			t.Errorf("%v %v", back, e)
		}
	}
	for _, name := range []string{"A", "Bob", "z"} {
		first, _ := register.Add(r, somebody(name))
		second, _ := register.Add(r, somebody(name))
		change(first)
		if back, e := register.Remove(second, name); e != api.OK || !same(back, staff()) {
			t.Errorf("%v %v", back, e)
		}
	}
	if !same(r, staff()) {
		t.Errorf("the register became %v", r)
	}
}
