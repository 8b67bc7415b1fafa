package mask_test

import (
	"fmt"
	"math"
	"math/rand"
	"reflect"
	"slices"
	"testing"

	"permitoffice/api"
	"permitoffice/mask"
	"permitoffice/network"
)

// noMasks are numbers that are no masks.
var noMasks = []int{0, 4, 5, 7, -1, -2, -3, 1 << 31, 1<<32 + 1, math.MinInt, math.MinInt + 1, math.MaxInt}

// row returns a valid network of so many devices.
func row(devices int) api.Network {
	n := api.Network{Nodes: []api.Node{{Name: "A"}, {Name: "B"}}}
	for i := range devices {
		n.Devices = append(n.Devices, api.Device{Name: fmt.Sprintf("L%d", i), Kind: api.KindLine, A: 0, B: 1})
	}
	return n
}

// repeated returns a list of one number.
func repeated(number, length int) []int {
	return slices.Repeat([]int{number}, length)
}

// with returns a list with another number at a place.
func with(list []int, at, number int) []int {
	list = slices.Clone(list)
	list[at] = number
	return list
}

// lists tells all lists of a length over some numbers, in their order if the numbers ascend.
func lists(length int, numbers []int, tell func(list []int)) {
	list := make([]int, length)
	var fill func(at int)
	fill = func(at int) {
		if at == length {
			tell(slices.Clone(list))
			return
		}
		for _, number := range numbers {
			list[at] = number
			fill(at + 1)
		}
	}
	fill(0)
}

func allLists(length int, numbers ...int) [][]int {
	var all [][]int
	lists(length, numbers, func(list []int) { all = append(all, list) })
	return all
}

// isMask and allows say anew what a mask is, and which positions it has.
func isMask(number int) bool {
	return number == 1 || number == 2 || number == 3
}

func allows(mask, position int) bool {
	switch mask {
	case 1, 2:
		return position == mask
	case 3:
		return position == 1 || position == 2
	}
	return false
}

func areMasks(list []int) bool {
	return !slices.ContainsFunc(list, func(number int) bool { return !isMask(number) })
}

func agrees(state, masks []int) bool {
	if len(state) != len(masks) {
		return false
	}
	for i := range state {
		if !allows(masks[i], state[i]) {
			return false
		}
	}
	return true
}

// states returns the states that agree with masks, found among all states.
func states(masks []int) [][]int {
	return slices.DeleteFunc(allLists(len(masks), 1, 2), func(state []int) bool { return !agrees(state, masks) })
}

func equalLists(a, b [][]int) bool {
	return slices.EqualFunc(a, b, slices.Equal[[]int])
}

// P6.1: Check and State.

func TestCheckAndStateOfLists(t *testing.T) {
	for length := range 4 {
		n := row(length)
		for _, list := range allLists(length, -1, 0, 1, 2, 3, 4) {
			wantMasks, wantState := api.OK, api.OK
			if !areMasks(list) {
				wantMasks = api.ErrMask
			}
			if !areMasks(list) || slices.Contains(list, 3) {
				wantState = api.ErrMask
			}
			if e := mask.Check(n, list); e != wantMasks {
				t.Errorf("Check %v: %v, not %v", list, e, wantMasks)
			}
			if e := mask.State(n, list); e != wantState {
				t.Errorf("State %v: %v, not %v", list, e, wantState)
			}
		}
	}
}

// wantBoth checks that Check and State answer the same.
func wantBoth(t *testing.T, n api.Network, list []int, want api.Errno) {
	t.Helper()
	if e := mask.Check(n, list); e != want {
		t.Errorf("Check of %d devices, %v: %v, not %v", len(n.Devices), list, e, want)
	}
	if e := mask.State(n, list); e != want {
		t.Errorf("State of %d devices, %v: %v, not %v", len(n.Devices), list, e, want)
	}
}

func TestCheckAndStateOfStrangeNumbers(t *testing.T) {
	n := row(api.MaxDevices)
	wantBoth(t, n, repeated(1, api.MaxDevices), api.OK)
	wantBoth(t, n, repeated(2, api.MaxDevices), api.OK)
	for _, number := range noMasks {
		for _, at := range []int{0, 1, 40, api.MaxDevices - 1} {
			wantBoth(t, n, with(repeated(2, api.MaxDevices), at, number), api.ErrMask)
		}
	}
	if e := mask.Check(n, repeated(3, api.MaxDevices)); e != api.OK {
		t.Error("more unknown devices than api.MaxUnknown are masks:", e)
	}
	if e := mask.State(n, with(repeated(1, api.MaxDevices), api.MaxDevices-1, 3)); e != api.ErrMask {
		t.Error("both positions are no position:", e)
	}
}

func TestCheckAndStateOfLengths(t *testing.T) {
	for _, devices := range []int{0, 1, 2, api.MaxDevices} {
		for _, length := range []int{0, 1, 2, 3, api.MaxDevices - 1, api.MaxDevices, api.MaxDevices + 1, 1000} {
			if length == devices {
				continue
			}
			wantBoth(t, row(devices), repeated(1, length), api.ErrLength)
			wantBoth(t, row(devices), repeated(0, length), api.ErrLength)
		}
	}
	wantBoth(t, row(0), nil, api.OK)
	wantBoth(t, row(0), []int{}, api.OK)
	wantBoth(t, api.Network{}, nil, api.OK)
	wantBoth(t, row(1), nil, api.ErrLength)
}

func TestCheckAndStateOfBrokenNetworks(t *testing.T) {
	broken := func(want api.Errno, change func(n *api.Network)) {
		n := row(3)
		change(&n)
		for _, list := range [][]int{nil, {1}, {1, 2, 1}, {0, 1, 1}, {9, 9, 9, 9}} {
			wantBoth(t, n, list, want)
		}
	}
	broken(api.ErrName, func(n *api.Network) { n.Nodes[1].Name = "" })
	broken(api.ErrTwice, func(n *api.Network) { n.Devices[1].Name = "A" })
	broken(api.ErrRange, func(n *api.Network) { n.Nodes[0].Customers = -1 })
	broken(api.ErrKind, func(n *api.Network) { n.Devices[2].Kind = 0 })
	broken(api.ErrNode, func(n *api.Network) { n.Devices[0].B = 0 })
	broken(api.ErrLimit, func(n *api.Network) { *n = row(api.MaxDevices + 1) })
	wantBoth(t, row(api.MaxDevices+1), repeated(1, api.MaxDevices+1), api.ErrLimit)
}

// P6.2: Agrees, Unknown, Count and All.

func TestAgreesOfLists(t *testing.T) {
	numbers := []int{-1, 0, 1, 2, 3, 4}
	for _, of := range [][2]int{{0, 0}, {0, 1}, {1, 0}, {1, 1}, {1, 2}, {2, 1}, {2, 2}} {
		for _, state := range allLists(of[0], numbers...) {
			for _, masks := range allLists(of[1], numbers...) {
				if got, want := mask.Agrees(state, masks), agrees(state, masks); got != want {
					t.Errorf("Agrees %v %v: %v", state, masks, got)
				}
			}
		}
	}
}

func TestAgreesOfStrangeNumbers(t *testing.T) {
	for _, number := range noMasks {
		for _, at := range []int{0, 1, 2} {
			if mask.Agrees(with([]int{1, 2, 1}, at, number), []int{3, 3, 3}) || mask.Agrees([]int{1, 2, 1}, with([]int{3, 3, 3}, at, number)) {
				t.Error("agrees:", number)
			}
		}
		if mask.Agrees([]int{number}, []int{number}) {
			t.Error("no mask agrees with itself:", number)
		}
	}
	if !mask.Agrees(nil, []int{}) || !mask.Agrees([]int{}, nil) || mask.Agrees(nil, []int{3}) || mask.Agrees([]int{1, 2}, []int{3}) {
		t.Error("lengths")
	}
	long := 1000 // more than the devices of a network: Agrees has no limit
	if !mask.Agrees(repeated(2, long), repeated(3, long)) || mask.Agrees(with(repeated(2, long), long-1, 1), repeated(2, long)) {
		t.Error("long lists")
	}
}

func TestUnknown(t *testing.T) {
	for length := range 4 {
		for _, list := range allLists(length, -1, 0, 1, 2, 3, 4, 7) {
			var want []int
			for i, number := range list {
				if number == 3 {
					want = append(want, i)
				}
			}
			if l := mask.Unknown(list); !slices.Equal(l, want) {
				t.Errorf("Unknown %v: %v", list, l)
			}
		}
	}
	if l := mask.Unknown(repeated(3, 100)); len(l) != 100 || l[99] != 99 {
		t.Error("Unknown has no limit:", l)
	}
}

// wantStates checks Count and All against the states found among all states.
func wantStates(t *testing.T, masks []int) {
	t.Helper()
	want := states(masks)
	if count, e := mask.Count(masks); count != len(want) || e != api.OK {
		t.Errorf("Count %v: %v %v, not %v", masks, count, e, len(want))
	}
	all, e := mask.All(masks)
	if e != api.OK || !equalLists(all, want) {
		t.Errorf("All %v: %v %v, not %v", masks, all, e, want)
	}
	if !slices.IsSortedFunc(all, slices.Compare[[]int]) {
		t.Errorf("All %v is not in order: %v", masks, all)
	}
}

func TestCountAndAllOfLists(t *testing.T) {
	for length := range 6 {
		for _, masks := range allLists(length, 1, 2, 3) {
			wantStates(t, masks)
		}
	}
	wantStates(t, nil)
	wantStates(t, []int{1, 3}) // the chapter's example: 1, 1 and 1, 2
	wantStates(t, repeated(3, api.MaxUnknown))
	wantStates(t, append([]int{2}, append(repeated(3, api.MaxUnknown), 1, 2)...))
}

func TestAllOfTheExample(t *testing.T) {
	if all, e := mask.All([]int{1, 3}); e != api.OK || !equalLists(all, [][]int{{1, 1}, {1, 2}}) {
		t.Error(all, e)
	}
	if all, e := mask.All(nil); e != api.OK || len(all) != 1 || len(all[0]) != 0 {
		t.Error("no devices have one state:", all, e)
	}
}

func TestCountAndAllOfManyDevices(t *testing.T) {
	masks := repeated(1, 500)
	for i := range api.MaxUnknown {
		masks[7+60*i] = 3
	}
	all, e := mask.All(masks)
	if count, f := mask.Count(masks); count != 256 || f != api.OK || len(all) != 256 || e != api.OK {
		t.Fatal(count, f, len(all), e)
	}
	for i, state := range all {
		if !agrees(state, masks) || i > 0 && slices.Compare(all[i-1], state) >= 0 {
			t.Fatal(i, state)
		}
	}
}

// wantNoStates checks that Count and All give an error and nothing else.
func wantNoStates(t *testing.T, masks []int, want api.Errno) {
	t.Helper()
	if count, e := mask.Count(masks); count != 0 || e != want {
		t.Errorf("Count %v: %v %v, not %v", masks, count, e, want)
	}
	if all, e := mask.All(masks); len(all) != 0 || e != want {
		t.Errorf("All %v: %v %v, not %v", masks, all, e, want)
	}
}

func TestErrorsOfCountAndAll(t *testing.T) {
	for _, unknown := range []int{api.MaxUnknown + 1, api.MaxUnknown + 2, 31, 32, 33, 63, 64, 65, 1000} {
		masks := repeated(3, unknown)
		wantNoStates(t, masks, api.ErrLimit)
		wantNoStates(t, append([]int{1, 2}, masks...), api.ErrLimit)
		for _, number := range noMasks {
			wantNoStates(t, append(slices.Clone(masks), number), api.ErrMask)
			wantNoStates(t, append([]int{number}, masks...), api.ErrMask)
		}
	}
	for _, number := range noMasks {
		wantNoStates(t, []int{number}, api.ErrMask)
		wantNoStates(t, []int{1, 2, 3, number}, api.ErrMask)
		wantNoStates(t, []int{number, 3}, api.ErrMask)
	}
}

// P6.3: Lowest and Highest.

func TestLowestAndHighest(t *testing.T) {
	settled := func(list []int, position int) []int {
		list = slices.Clone(list)
		for i := range list {
			if list[i] == 3 {
				list[i] = position
			}
		}
		return list
	}
	all := allLists(3, -1, 0, 1, 2, 3, 4)
	all = append(all, nil, noMasks, append(repeated(3, 1000), noMasks...))
	for _, list := range all {
		if l := mask.Lowest(list); !slices.Equal(l, settled(list, 1)) {
			t.Errorf("Lowest %v: %v", list, l)
		}
		if l := mask.Highest(list); !slices.Equal(l, settled(list, 2)) {
			t.Errorf("Highest %v: %v", list, l)
		}
	}
}

func TestLowestAndHighestAreTheFirstAndTheLast(t *testing.T) {
	for _, masks := range allLists(4, 1, 2, 3) {
		all := states(masks)
		if !slices.Equal(mask.Lowest(masks), all[0]) || !slices.Equal(mask.Highest(masks), all[len(all)-1]) {
			t.Error(masks)
		}
	}
}

// P6.4: Meet, Join and Finer.

// bothOf returns the lists that are in both.
func bothOf(a, b [][]int) [][]int {
	return slices.DeleteFunc(slices.Clone(a), func(l []int) bool { return !holds(b, l) })
}

func holds(all [][]int, list []int) bool {
	return slices.ContainsFunc(all, func(l []int) bool { return slices.Equal(l, list) })
}

func holdsAll(all, lists [][]int) bool {
	return !slices.ContainsFunc(lists, func(l []int) bool { return !holds(all, l) })
}

// wantMeet checks Meet by the states that agree.
func wantMeet(t *testing.T, a, b []int) {
	t.Helper()
	want := bothOf(states(a), states(b))
	meet, ok := mask.Meet(a, b)
	if len(want) == 0 {
		if ok || len(meet) != 0 {
			t.Errorf("Meet %v %v: %v %v", a, b, meet, ok)
		}
		return
	}
	if !ok || !areMasks(meet) || len(meet) != len(a) || !equalLists(states(meet), want) {
		t.Errorf("Meet %v %v: %v %v, not %v", a, b, meet, ok, want)
	}
}

// wantJoin checks Join by the states that agree: of all masks with which those of both agree, it has the fewest states, and only those that all the others have.
func wantJoin(t *testing.T, a, b []int) {
	t.Helper()
	of := append(states(a), states(b)...)
	join := mask.Join(a, b)
	if !areMasks(join) || len(join) != len(a) || !holdsAll(states(join), of) {
		t.Errorf("Join %v %v: %v", a, b, join)
		return
	}
	for _, other := range allLists(len(a), 1, 2, 3) {
		if holdsAll(states(other), of) && !holdsAll(states(other), states(join)) {
			t.Errorf("Join %v %v: %v is not the least: %v", a, b, join, other)
		}
	}
}

func wantFiner(t *testing.T, a, b []int) {
	t.Helper()
	finer := mask.Finer(a, b)
	if want := holdsAll(states(b), states(a)); finer != want {
		t.Errorf("Finer %v %v: %v", a, b, finer)
	}
	if meet, ok := mask.Meet(a, b); finer != (ok && slices.Equal(meet, a)) {
		t.Errorf("Finer %v %v: %v, but Meet is %v %v", a, b, finer, meet, ok)
	}
}

func TestLatticeOfMasks(t *testing.T) {
	for length := range 4 {
		all := allLists(length, 1, 2, 3)
		for _, a := range all {
			for _, b := range all {
				wantMeet(t, a, b)
				wantJoin(t, a, b)
				wantFiner(t, a, b)
			}
		}
	}
}

// wantNothing checks that two lists have no meet and no join, in either order, and that neither is finer.
func wantNothing(t *testing.T, a, b []int) {
	t.Helper()
	for range 2 {
		if l, ok := mask.Meet(a, b); ok || len(l) != 0 {
			t.Errorf("Meet %v %v: %v", a, b, l)
		}
		if l := mask.Join(a, b); len(l) != 0 {
			t.Errorf("Join %v %v: %v", a, b, l)
		}
		if mask.Finer(a, b) {
			t.Errorf("Finer %v %v", a, b)
		}
		a, b = b, a
	}
}

func TestNothingOfWhatIsNoMask(t *testing.T) {
	for _, number := range noMasks {
		for at := range 3 {
			for _, other := range [][]int{{1, 2, 3}, {3, 3, 3}, {2, 2, 2}} {
				wantNothing(t, with(other, at, number), other)
				wantNothing(t, with([]int{3, 3, 3}, at, number), other)
			}
		}
		wantNothing(t, []int{number}, []int{number})
		wantNothing(t, []int{1, number}, []int{2, 1})
	}
}

func TestNothingOfOtherLengths(t *testing.T) {
	all := [][]int{nil, {1}, {3, 3}, {1, 2, 3}, repeated(3, 64), repeated(1, 65)}
	for i, a := range all {
		for _, b := range all[i+1:] {
			wantNothing(t, a, b)
		}
	}
}

func TestLatticeOfNoDevices(t *testing.T) {
	if l, ok := mask.Meet(nil, []int{}); !ok || len(l) != 0 {
		t.Error("Meet of no devices:", l, ok)
	}
	if l := mask.Join([]int{}, nil); len(l) != 0 || !mask.Finer(nil, []int{}) {
		t.Error("Join and Finer of no devices:", l)
	}
}

func TestLatticeOfLongLists(t *testing.T) {
	a, b := repeated(3, 1000), repeated(2, 1000)
	if l, ok := mask.Meet(a, b); !ok || !slices.Equal(l, b) {
		t.Error("Meet", ok)
	}
	if !slices.Equal(mask.Join(a, b), a) || !mask.Finer(b, a) || mask.Finer(a, b) {
		t.Error("Join, Finer")
	}
	if l, ok := mask.Meet(with(a, 999, 1), b); ok || len(l) != 0 || mask.Finer(with(b, 999, 1), b) {
		t.Error("the last devices differ")
	}
}

// The chapter's consequences: Meet and Join are commutative and associative.

// meets is Meet where nothing may come in, too.
func meets(a, b []int, ok bool) ([]int, bool) {
	if !ok {
		return nil, false
	}
	return mask.Meet(a, b)
}

func TestCommutativeAndAssociative(t *testing.T) {
	all := allLists(2, 1, 2, 3)
	for _, a := range all {
		for _, b := range all {
			ab, ok := mask.Meet(a, b)
			ba, back := mask.Meet(b, a)
			if ok != back || !slices.Equal(ab, ba) || !slices.Equal(mask.Join(a, b), mask.Join(b, a)) {
				t.Error("not commutative:", a, b)
			}
			for _, c := range all {
				bc, right := mask.Meet(b, c)
				first, ok1 := meets(ab, c, ok)
				second, ok2 := meets(a, bc, right)
				if ok1 != ok2 || !slices.Equal(first, second) || !slices.Equal(mask.Join(mask.Join(a, b), c), mask.Join(a, mask.Join(b, c))) {
					t.Error("not associative:", a, b, c)
				}
			}
		}
	}
}

// R1 and R2: nothing panics, is changed, kept or shared.

// spare returns a list with capacity behind it, filled with a number by which a write is seen.
func spare(list []int) []int {
	with := append(slices.Clone(list), repeated(77, 8)...)
	return with[:len(list)]
}

func wantUntouched(t *testing.T, list, was []int) {
	t.Helper()
	if !slices.Equal(list, was) || !slices.Equal(list[len(was):len(was)+8], repeated(77, 8)) {
		t.Errorf("%v was changed to %v", was, list[:len(was)+8])
	}
}

// fill writes into all of the memory of a list.
func fill(list []int) {
	list = list[:cap(list)]
	for i := range list {
		list[i] = 99
	}
}

func TestNothingIsChangedOrShared(t *testing.T) {
	wasA, wasB := []int{1, 3, 2, 3}, []int{3, 2, 3, 3}
	n, a, b := row(4), spare(wasA), spare(wasB)
	results := func() [][]int {
		all, _ := mask.All(a)
		meet, _ := mask.Meet(a, b)
		if mask.Check(n, a) != api.OK || mask.State(n, b) != api.ErrMask || mask.Agrees(a, b) || mask.Finer(a, b) {
			t.Error("the lists")
		}
		return append(all, meet, mask.Join(a, b), mask.Lowest(a), mask.Highest(a), mask.Unknown(a))
	}
	first, second := results(), results()
	for i := range first {
		was := slices.Clone(second[i])
		fill(first[i])
		for j, l := range first[i+1:] {
			if !slices.Equal(l, second[i+1+j]) {
				t.Errorf("results %d and %d share memory", i, i+1+j)
			}
		}
		if !slices.Equal(second[i], was) {
			t.Errorf("result %d was kept", i)
		}
	}
	wantUntouched(t, a, wasA)
	wantUntouched(t, b, wasB)
	if !reflect.DeepEqual(n, row(4)) {
		t.Error("the network was changed")
	}
}

// TestRandomLists gives lists of all numbers to all functions, and compares Count and All with what the masks allow.
func TestRandomLists(t *testing.T) {
	r := rand.New(rand.NewSource(6))
	numbers := append([]int{1, 2, 3, 3, 2, 1, 1, 2, 3, 1, 2, 3, 1, 2, 3, 1, 2, 3}, noMasks...)
	random := func() []int {
		list := make([]int, r.Intn(6))
		among := len(numbers)
		if r.Intn(2) == 0 {
			among = 18
		}
		for i := range list {
			list[i] = numbers[r.Intn(among)]
		}
		return list
	}
	for range 5000 {
		a, b := random(), random()
		if areMasks(a) {
			wantStates(t, a)
		} else {
			wantNoStates(t, a, api.ErrMask)
		}
		if mask.Agrees(a, b) != agrees(a, b) {
			t.Fatal("Agrees", a, b)
		}
		if len(a) != len(b) || !areMasks(a) || !areMasks(b) {
			wantNothing(t, a, b)
		} else {
			wantMeet(t, a, b)
			wantFiner(t, a, b)
		}
		n := row(r.Intn(6))
		if r.Intn(3) == 0 {
			n.Nodes = n.Nodes[:r.Intn(2)]
		}
		want := network.Check(n)
		if want == api.OK && len(a) != len(n.Devices) {
			want = api.ErrLength
		}
		if e := mask.Check(n, a); want != api.OK && e != want {
			t.Fatal("Check", n, a, e, want)
		}
	}
}
