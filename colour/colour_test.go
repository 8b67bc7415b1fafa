package colour_test

import (
	"fmt"
	"math"
	"math/rand"
	"reflect"
	"slices"
	"testing"

	"permitoffice/api"
	"permitoffice/colour"
	"permitoffice/mask"
)

// strange are numbers that are no node and no mask.
var strange = []int{math.MinInt, math.MinInt + 1, -1 << 32, -2, -1, 1 << 31, 1 << 32, 1<<32 + 1, math.MaxInt - 1, math.MaxInt}

// yard returns a network with every kind of device, whose later nodes are joined first, with a ring and two devices side by side.
func yard() api.Network {
	return api.Network{
		Nodes: []api.Node{{Name: "A"}, {Name: "B", Customers: 5}, {Name: "C"}, {Name: "D", Company: 2}, {Name: "E"}},
		Devices: []api.Device{
			{Name: "L1", Kind: api.KindLine, A: 4, B: 3},
			{Name: "Q1", Kind: api.KindBreaker, A: 2, B: 1},
			{Name: "D1", Kind: api.KindDisconnector, A: 1, B: 3},
			{Name: "L2", Kind: api.KindLine, A: 2, B: 3, Company: 2},
			{Name: "Q2", Kind: api.KindBreaker, A: 0, B: 4},
			{Name: "Q3", Kind: api.KindBreaker, A: 4, B: 0},
			{Name: "S", Kind: api.KindInfeed, A: 3, B: -1},
			{Name: "G", Kind: api.KindGenerator, A: 0, B: -1},
			{Name: "E1", Kind: api.KindEarth, A: 1, B: -1},
		},
	}
}

// short returns the network of the chapter's example.
func short() api.Network {
	return api.Network{
		Nodes: []api.Node{{Name: "A"}, {Name: "B"}},
		Devices: []api.Device{
			{Name: "S", Kind: api.KindInfeed, A: 0, B: -1},
			{Name: "Q", Kind: api.KindBreaker, A: 0, B: 1},
			{Name: "E", Kind: api.KindEarth, A: 1, B: -1},
		},
	}
}

// sized returns a network of so many nodes and so many lines, each from a node to the next one, the last nodes first, and round again.
func sized(nodes, devices int) api.Network {
	var n api.Network
	for i := range nodes {
		n.Nodes = append(n.Nodes, api.Node{Name: fmt.Sprintf("N%d", i)})
	}
	for i := range devices {
		from := nodes - 2 - i%(nodes-1)
		n.Devices = append(n.Devices, api.Device{Name: fmt.Sprintf("L%d", i), Kind: api.KindLine, A: from, B: from + 1})
	}
	return n
}

func repeated(number, length int) []int {
	return slices.Repeat([]int{number}, length)
}

// with returns a list with another number at a place.
func with(list []int, at, number int) []int {
	list = slices.Clone(list)
	list[at] = number
	return list
}

// allLists returns all lists of a length over some numbers.
func allLists(length int, numbers ...int) [][]int {
	all := [][]int{nil}
	for range length {
		var longer [][]int
		for _, list := range all {
			for _, number := range numbers {
				longer = append(longer, append(slices.Clone(list), number))
			}
		}
		all = longer
	}
	return all
}

// reached says anew which nodes are in one part: joined by closed devices, or through others.
func reached(n api.Network, state []int) [][]bool {
	to := make([][]bool, len(n.Nodes))
	for u := range to {
		to[u] = make([]bool, len(n.Nodes))
		to[u][u] = true
	}
	for i, d := range n.Devices {
		if state[i] == 2 && (d.Kind == api.KindLine || d.Kind == api.KindBreaker || d.Kind == api.KindDisconnector) {
			to[d.A][d.B], to[d.B][d.A] = true, true
		}
	}
	for by := range to {
		for u := range to {
			for v := range to {
				to[u][v] = to[u][v] || to[u][by] && to[by][v]
			}
		}
	}
	return to
}

// answers are what the functions of P7.1 have to return for a state.
type answers struct {
	parts, colours, faults []int
	joined                 [][]bool
}

func expected(n api.Network, state []int) answers {
	a := answers{joined: reached(n, state)}
	for u := range n.Nodes {
		colour := 0
		for i, d := range n.Devices {
			if state[i] != 2 || !a.joined[u][d.A] {
				continue
			}
			switch d.Kind {
			case api.KindInfeed, api.KindGenerator:
				colour |= 1
			case api.KindEarth:
				colour |= 2
			}
		}
		a.parts = append(a.parts, slices.Index(a.joined[u], true))
		a.colours = append(a.colours, colour)
		if colour == 3 {
			a.faults = append(a.faults, u)
		}
	}
	return a
}

// wantList checks a list that comes without an error.
func wantList(t *testing.T, what string, got []int, e api.Errno, want []int) {
	t.Helper()
	if e != api.OK || !slices.Equal(got, want) {
		t.Errorf("%s: %v %v, not %v", what, got, e, want)
	}
}

// wantAnswers checks all functions of P7.1 in a state.
func wantAnswers(t *testing.T, n api.Network, state []int) {
	t.Helper()
	want := expected(n, state)
	parts, e := colour.Parts(n, state)
	wantList(t, fmt.Sprint("Parts ", state), parts, e, want.parts)
	colours, e := colour.Colours(n, state)
	wantList(t, fmt.Sprint("Colours ", state), colours, e, want.colours)
	faults, e := colour.Faults(n, state)
	wantList(t, fmt.Sprint("Faults ", state), faults, e, want.faults)
	for u := range n.Nodes {
		for v := range n.Nodes {
			if joined, e := colour.Joined(n, state, u, v); joined != want.joined[u][v] || e != api.OK {
				t.Errorf("Joined %v %d %d: %v %v", state, u, v, joined, e)
			}
		}
	}
}

// P7.1: Parts, Colours, Joined and Faults.

func TestStatesOfTheYard(t *testing.T) {
	n := yard()
	for _, state := range allLists(len(n.Devices), 1, 2) {
		wantAnswers(t, n, state)
	}
}

func TestExample(t *testing.T) {
	n, state := short(), []int{2, 2, 2}
	parts, e := colour.Parts(n, state)
	wantList(t, "Parts", parts, e, []int{0, 0})
	colours, e := colour.Colours(n, state)
	wantList(t, "Colours", colours, e, []int{3, 3})
	faults, e := colour.Faults(n, state)
	wantList(t, "Faults", faults, e, []int{0, 1})
	open := []int{2, 1, 2}
	parts, e = colour.Parts(n, open)
	wantList(t, "Parts, the breaker open", parts, e, []int{0, 1})
	colours, e = colour.Colours(n, open)
	wantList(t, "Colours, the breaker open", colours, e, []int{1, 2})
	faults, e = colour.Faults(n, open)
	wantList(t, "Faults, the breaker open", faults, e, nil)
}

// TestKinds closes and opens one device of each kind between, or at the first one of, two nodes.
func TestKinds(t *testing.T) {
	kinds := []struct {
		kind           int
		parts, colours []int
	}{
		{api.KindLine, []int{0, 0}, []int{0, 0}},
		{api.KindBreaker, []int{0, 0}, []int{0, 0}},
		{api.KindDisconnector, []int{0, 0}, []int{0, 0}},
		{api.KindEarth, []int{0, 1}, []int{0, 2}},
		{api.KindInfeed, []int{0, 1}, []int{0, 1}},
		{api.KindGenerator, []int{0, 1}, []int{0, 1}},
	}
	for _, x := range kinds {
		n := api.Network{Nodes: []api.Node{{Name: "A"}, {Name: "B"}}, Devices: []api.Device{{Name: "X", Kind: x.kind, A: 1, B: -1}}}
		if x.kind <= api.KindDisconnector {
			n.Devices[0].B = 0
		}
		for _, closed := range []bool{true, false} {
			state, wantParts, wantColours := []int{api.PosOpen}, []int{0, 1}, []int{0, 0}
			if closed {
				state, wantParts, wantColours = []int{api.PosClosed}, x.parts, x.colours
			}
			parts, e := colour.Parts(n, state)
			wantList(t, fmt.Sprint("Parts, kind ", x.kind, closed), parts, e, wantParts)
			colours, e := colour.Colours(n, state)
			wantList(t, fmt.Sprint("Colours, kind ", x.kind, closed), colours, e, wantColours)
		}
	}
}

// TestSharedEarthJoinsNothing: nodes do not become one part by the earth, or by a source, that both have.
func TestSharedEarthJoinsNothing(t *testing.T) {
	for _, kind := range []int{api.KindEarth, api.KindInfeed, api.KindGenerator} {
		n := sized(3, 0)
		for i := range n.Nodes {
			n.Devices = append(n.Devices, api.Device{Name: fmt.Sprintf("X%d", i), Kind: kind, A: i, B: -1})
		}
		parts, e := colour.Parts(n, []int{2, 2, 2})
		wantList(t, "Parts", parts, e, []int{0, 1, 2})
		if joined, e := colour.Joined(n, []int{2, 2, 2}, 0, 2); joined || e != api.OK {
			t.Errorf("kind %d: %v %v", kind, joined, e)
		}
	}
}

// TestGreatestNetwork has a chain of all nodes: one part, and two after a cut.
func TestGreatestNetwork(t *testing.T) {
	n := sized(api.MaxNodes, api.MaxDevices-2)
	n.Devices = append(n.Devices,
		api.Device{Name: "S", Kind: api.KindInfeed, A: 31, B: -1},
		api.Device{Name: "E", Kind: api.KindEarth, A: 0, B: -1})
	closed := repeated(2, api.MaxDevices)
	parts, e := colour.Parts(n, closed)
	wantList(t, "Parts", parts, e, repeated(0, 32))
	faults, e := colour.Faults(n, closed)
	wantList(t, "Faults", faults, e, mask.Unknown(repeated(3, 32)))
	cut := slices.Clone(closed) // both lines from node 15 to node 16
	for i, d := range n.Devices {
		if d.A == 15 {
			cut[i] = 1
		}
	}
	parts, e = colour.Parts(n, cut)
	wantList(t, "Parts after the cut", parts, e, append(repeated(0, 16), repeated(16, 16)...))
	colours, e := colour.Colours(n, cut)
	wantList(t, "Colours after the cut", colours, e, append(repeated(2, 16), repeated(1, 16)...))
	wantAnswers(t, n, closed)
	wantAnswers(t, n, cut)
}

func TestSmallestNetworks(t *testing.T) {
	for _, n := range []api.Network{{}, {Nodes: []api.Node{}, Devices: []api.Device{}}} {
		for _, state := range [][]int{nil, {}} {
			wantAnswers(t, n, state)
			if l, e := colour.Shades(n, state); e != api.OK || len(l) != 0 {
				t.Error("Shades of nothing:", l, e)
			}
			if joined, e := colour.Joined(n, state, 0, 0); joined || e != api.ErrNode {
				t.Error("Joined without nodes:", joined, e)
			}
		}
	}
	wantAnswers(t, sized(2, 0), nil)
}

func TestJoinedNodesThatDoNotExist(t *testing.T) {
	n := yard()
	state := repeated(2, len(n.Devices))
	for _, node := range append([]int{5, 6, 31, 32, 64}, strange...) {
		for _, of := range [][2]int{{node, 0}, {0, node}, {node, 4}, {node, node}, {node, -1}} {
			if joined, e := colour.Joined(n, state, of[0], of[1]); joined || e != api.ErrNode {
				t.Errorf("Joined %v: %v %v", of, joined, e)
			}
		}
	}
}

// wantError checks that the functions of P7.1 give an error and nothing else, Joined even if its nodes do not exist.
func wantError(t *testing.T, n api.Network, state []int, want api.Errno) {
	t.Helper()
	if l, e := colour.Parts(n, state); len(l) != 0 || e != want {
		t.Errorf("Parts %v: %v %v, not %v", state, l, e, want)
	}
	if l, e := colour.Colours(n, state); len(l) != 0 || e != want {
		t.Errorf("Colours %v: %v %v, not %v", state, l, e, want)
	}
	if l, e := colour.Faults(n, state); len(l) != 0 || e != want {
		t.Errorf("Faults %v: %v %v, not %v", state, l, e, want)
	}
	for _, of := range [][2]int{{0, 0}, {0, 1}, {-1, 0}, {0, 99}, {math.MinInt, math.MaxInt}} {
		if joined, e := colour.Joined(n, state, of[0], of[1]); joined || e != want {
			t.Errorf("Joined %v %v: %v %v, not %v", state, of, joined, e, want)
		}
	}
}

func wantShadesError(t *testing.T, n api.Network, masks []int, want api.Errno) {
	t.Helper()
	if l, e := colour.Shades(n, masks); len(l) != 0 || e != want {
		t.Errorf("Shades %v: %v %v, not %v", masks, l, e, want)
	}
}

func TestErrorsOfStates(t *testing.T) {
	n := yard()
	count := len(n.Devices)
	for _, number := range append([]int{0, 4, 5}, strange...) {
		for at := range count {
			wantError(t, n, with(repeated(2, count), at, number), api.ErrMask)
			wantShadesError(t, n, with(repeated(3, count), at, number), api.ErrMask)
		}
	}
	for at := range count {
		wantError(t, n, with(repeated(1, count), at, 3), api.ErrMask)
	}
	for _, length := range []int{0, 1, count - 1, count + 1, 64, 65, 1000} {
		for _, number := range []int{0, 1, 2, 3} {
			wantError(t, n, repeated(number, length), api.ErrLength)
			wantShadesError(t, n, repeated(number, length), api.ErrLength)
		}
	}
}

func TestErrorsOfNetworks(t *testing.T) {
	broken := func(want api.Errno, change func(n *api.Network)) {
		n := yard()
		change(&n)
		for _, list := range [][]int{nil, {2}, repeated(2, len(n.Devices)), repeated(9, len(n.Devices))} {
			wantError(t, n, list, want)
			wantShadesError(t, n, list, want)
		}
	}
	broken(api.ErrLimit, func(n *api.Network) { n.Nodes = append(n.Nodes, make([]api.Node, 28)...) })
	broken(api.ErrLimit, func(n *api.Network) { n.Devices = append(n.Devices, make([]api.Device, 56)...) })
	broken(api.ErrName, func(n *api.Network) { n.Nodes[4].Name = "" })
	broken(api.ErrTwice, func(n *api.Network) { n.Devices[8].Name = "A" })
	broken(api.ErrRange, func(n *api.Network) { n.Devices[0].Company = -1 })
	broken(api.ErrKind, func(n *api.Network) { n.Devices[1].Kind = 7 })
	for _, node := range append([]int{5}, strange...) {
		broken(api.ErrNode, func(n *api.Network) { n.Devices[0].A = node })
		broken(api.ErrNode, func(n *api.Network) { n.Devices[0].B = node })
		broken(api.ErrNode, func(n *api.Network) { n.Devices[6].A = node })
	}
	broken(api.ErrNode, func(n *api.Network) { n.Devices[0].B = n.Devices[0].A })
	broken(api.ErrNode, func(n *api.Network) { n.Devices[8].B = 0 })
}

// P7.2: Shades.

// shadesOf says anew what nodes may be and must be, from the colours of all agreeing states.
func shadesOf(nodes int, colours [][]int) []api.Shade {
	shades := make([]api.Shade, nodes)
	for node := range shades {
		s := api.Shade{MustLive: true, MustEarth: true}
		for _, of := range colours {
			live, earthed := of[node] == 1 || of[node] == 3, of[node] >= 2
			s.MayLive, s.MustLive = s.MayLive || live, s.MustLive && live
			s.MayEarth, s.MustEarth = s.MayEarth || earthed, s.MustEarth && earthed
		}
		shades[node] = s
	}
	return shades
}

// agreeing returns the colours of all states that agree with masks.
func agreeing(n api.Network, masks []int) [][]int {
	var all [][]int
	states, _ := mask.All(masks)
	for _, state := range states {
		all = append(all, expected(n, state).colours)
	}
	return all
}

func wantShades(t *testing.T, n api.Network, masks []int) {
	t.Helper()
	want := shadesOf(len(n.Nodes), agreeing(n, masks))
	if l, e := colour.Shades(n, masks); e != api.OK || !slices.Equal(l, want) {
		t.Errorf("Shades %v: %v %v, not %v", masks, l, e, want)
	}
}

func TestShadesOfTheYard(t *testing.T) {
	n := yard()
	n.Devices = slices.Delete(n.Devices, 4, 6) // no devices side by side: seven are left
	for _, masks := range allLists(len(n.Devices), 1, 2, 3) {
		wantShades(t, n, masks)
	}
	n = yard()
	wantShades(t, n, with(repeated(3, len(n.Devices)), 4, 1))
	wantShades(t, n, with(repeated(3, len(n.Devices)), 6, 2))
}

func TestShadesOfTheExample(t *testing.T) {
	shades := func(masks ...int) []api.Shade {
		l, e := colour.Shades(short(), masks)
		if e != api.OK {
			t.Error(masks, e)
		}
		return l
	}
	live, earthed := api.Shade{MayLive: true, MustLive: true}, api.Shade{MayEarth: true, MustEarth: true}
	fault := api.Shade{MayLive: true, MustLive: true, MayEarth: true, MustEarth: true}
	for _, x := range []struct{ got, want []api.Shade }{
		{shades(2, 2, 2), []api.Shade{fault, fault}},
		{shades(2, 1, 2), []api.Shade{live, earthed}},
		{shades(1, 1, 1), []api.Shade{{}, {}}},
		{shades(3, 1, 3), []api.Shade{{MayLive: true}, {MayEarth: true}}},
		{shades(2, 3, 2), []api.Shade{{MayLive: true, MustLive: true, MayEarth: true}, {MayLive: true, MayEarth: true, MustEarth: true}}},
		{shades(3, 3, 3), []api.Shade{{MayLive: true, MayEarth: true}, {MayLive: true, MayEarth: true}}},
	} {
		if !slices.Equal(x.got, x.want) {
			t.Errorf("%v, not %v", x.got, x.want)
		}
	}
}

// TestShadesOfManyUnknown: Shades has no limit of unknown devices.
func TestShadesOfManyUnknown(t *testing.T) {
	n := sized(api.MaxNodes, api.MaxDevices-2)
	n.Devices = append(n.Devices,
		api.Device{Name: "S", Kind: api.KindInfeed, A: 0, B: -1},
		api.Device{Name: "E", Kind: api.KindEarth, A: 31, B: -1})
	l, e := colour.Shades(n, repeated(3, api.MaxDevices))
	if want := slices.Repeat([]api.Shade{{MayLive: true, MayEarth: true}}, 32); e != api.OK || !slices.Equal(l, want) {
		t.Error("all unknown:", l, e)
	}
	masks := repeated(3, api.MaxDevices)
	masks[62] = 2
	masks[63] = 2
	want := slices.Repeat([]api.Shade{{MayLive: true, MayEarth: true}}, 32)
	want[0].MustLive, want[31].MustEarth = true, true
	if l, e := colour.Shades(n, masks); e != api.OK || !slices.Equal(l, want) {
		t.Error("the source and the earth are closed:", l, e)
	}
}

// The chapter's consequences, on random networks too.

// random returns a valid network of some of every kind of device.
func random(r *rand.Rand, nodes, devices int) api.Network {
	n := sized(nodes, 0)
	for i := range devices {
		d := api.Device{Name: fmt.Sprintf("X%d", i), Kind: 1 + r.Intn(6), A: r.Intn(nodes), B: -1}
		if d.Kind <= api.KindDisconnector {
			d.B = (d.A + 1 + r.Intn(nodes-1)) % nodes
		}
		n.Devices = append(n.Devices, d)
	}
	return n
}

func among(r *rand.Rand, length int, numbers ...int) []int {
	list := make([]int, length)
	for i := range list {
		list[i] = numbers[r.Intn(len(numbers))]
	}
	return list
}

func implies(a, b bool) bool {
	return !a || b
}

// wantFiner checks that the shades of finer masks have no May more and no Must less.
func wantFiner(t *testing.T, n api.Network, finer, masks []int) {
	t.Helper()
	few, e := colour.Shades(n, finer)
	many, f := colour.Shades(n, masks)
	if e != api.OK || f != api.OK || len(few) != len(many) {
		t.Fatal(e, f, len(few), len(many))
	}
	for i := range few {
		a, b := few[i], many[i]
		if !implies(a.MayLive, b.MayLive) || !implies(a.MayEarth, b.MayEarth) || !implies(b.MustLive, a.MustLive) || !implies(b.MustEarth, a.MustEarth) {
			t.Errorf("node %d: %v of %v, %v of %v", i, a, finer, b, masks)
		}
	}
}

// wantBounds checks that May is what the highest state has, and Must what the lowest one has.
func wantBounds(t *testing.T, n api.Network, masks []int) {
	t.Helper()
	shades, e := colour.Shades(n, masks)
	if e != api.OK || len(shades) != len(n.Nodes) {
		t.Fatal(shades, e)
	}
	may, must := expected(n, mask.Highest(masks)).colours, expected(n, mask.Lowest(masks)).colours
	for i, s := range shades {
		want := api.Shade{MayLive: may[i]&1 != 0, MustLive: must[i]&1 != 0, MayEarth: may[i]&2 != 0, MustEarth: must[i]&2 != 0}
		if s != want {
			t.Errorf("node %d of %v: %v, not %v", i, masks, s, want)
		}
	}
}

func TestRandomNetworks(t *testing.T) {
	r := rand.New(rand.NewSource(7))
	for round := range 1500 {
		n := random(r, 2+r.Intn(7), r.Intn(16))
		if round%75 == 0 {
			n = random(r, api.MaxNodes, api.MaxDevices)
		}
		count := len(n.Devices)
		wantAnswers(t, n, among(r, count, 1, 2))
		wantAnswers(t, n, among(r, count, 1, 2, 2, 2))
		masks := among(r, count, 1, 2, 2, 3)
		wantBounds(t, n, masks)
		finer, ok := mask.Meet(masks, among(r, count, 3, 3, 3, 1, 2))
		if ok {
			wantFiner(t, n, finer, masks)
		}
		if states, e := mask.Count(masks); e == api.OK && states <= 32 {
			wantShades(t, n, masks)
		}
	}
}

// R2: nothing is changed, kept or shared.

// spare returns a list with capacity behind it, filled with a number by which a write is seen.
func spare(list []int) []int {
	long := append(slices.Clone(list), repeated(77, 40)...)
	return long[:len(list)]
}

func wantUntouched(t *testing.T, list, was []int) {
	t.Helper()
	if !slices.Equal(list[:len(was)+40], append(slices.Clone(was), repeated(77, 40)...)) {
		t.Errorf("%v was changed to %v", was, list[:len(was)+40])
	}
}

func TestNothingIsChangedOrShared(t *testing.T) {
	n := yard()
	wasState, wasMasks := repeated(2, len(n.Devices)), repeated(3, len(n.Devices))
	state, masks := spare(wasState), spare(wasMasks)
	results := func() ([][]int, []api.Shade) {
		parts, _ := colour.Parts(n, state)
		colours, _ := colour.Colours(n, state)
		faults, _ := colour.Faults(n, state)
		if joined, e := colour.Joined(n, state, 0, 4); !joined || e != api.OK {
			t.Error("Joined", joined, e)
		}
		shades, _ := colour.Shades(n, masks)
		return [][]int{parts, colours, faults}, shades
	}
	lists, shades := results()
	for _, list := range lists {
		list = list[:cap(list)]
		for i := range list {
			list[i] = 99
		}
	}
	clear(shades[:cap(shades)])
	wantUntouched(t, state, wasState)
	wantUntouched(t, masks, wasMasks)
	lists, shades = results()
	want := expected(n, wasState)
	if !reflect.DeepEqual(lists, [][]int{want.parts, want.colours, want.faults}) {
		t.Error("results are shared or kept:", lists)
	}
	if want := slices.Repeat([]api.Shade{{MayLive: true, MayEarth: true}}, 5); !slices.Equal(shades, want) {
		t.Error("shades are shared or kept:", shades)
	}
	if !reflect.DeepEqual(n, yard()) {
		t.Error("the network was changed")
	}
}
