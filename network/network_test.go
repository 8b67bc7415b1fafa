package network_test

import (
	"fmt"
	"math"
	"math/rand"
	"reflect"
	"slices"
	"strings"
	"testing"

	"permitoffice/api"
	"permitoffice/network"
)

// strange are numbers that are no kind, no index and no amount.
var strange = []int{math.MinInt, math.MinInt + 1, -1 << 32, -2, 1 << 31, 1 << 32, math.MaxInt - 1, math.MaxInt}

// station returns a valid network with every kind of device: a source at A, a breaker and a disconnector to C, and a line and a breaker side by side to D.
func station() api.Network {
	return api.Network{
		Nodes: []api.Node{
			{Name: "A"},
			{Name: "B", Company: 7},
			{Name: "C", Customers: api.MaxCustomers},
			{Name: "D", Customers: 3, Company: 1},
		},
		Devices: []api.Device{
			{Name: "S", Kind: api.KindInfeed, A: 0, B: -1},
			{Name: "Q1", Kind: api.KindBreaker, A: 0, B: 1, Company: 7},
			{Name: "D1", Kind: api.KindDisconnector, A: 2, B: 1},
			{Name: "L1", Kind: api.KindLine, A: 2, B: 3},
			{Name: "Q2", Kind: api.KindBreaker, A: 3, B: 2},
			{Name: "E1", Kind: api.KindEarth, A: 2, B: -1},
			{Name: "G1", Kind: api.KindGenerator, A: 3, B: -1, Company: 1},
		},
	}
}

// changed returns the station after a change.
func changed(change func(n *api.Network)) api.Network {
	n := station()
	change(&n)
	return n
}

// sized returns a network with so many nodes and so many earths.
func sized(nodes, devices int) api.Network {
	var n api.Network
	for i := range nodes {
		n.Nodes = append(n.Nodes, api.Node{Name: fmt.Sprintf("N%d", i)})
	}
	for i := range devices {
		n.Devices = append(n.Devices, api.Device{Name: fmt.Sprintf("E%d", i), Kind: api.KindEarth, B: -1})
	}
	return n
}

// allTrue returns a use of every device.
func allTrue(n api.Network) []bool {
	use := make([]bool, len(n.Devices))
	for i := range use {
		use[i] = true
	}
	return use
}

// P3.1: Joins, Gap and Operable.

func TestKinds(t *testing.T) {
	kinds := []struct {
		kind                 int
		joins, gap, operable bool
	}{
		{api.KindLine, true, true, true},
		{api.KindBreaker, true, false, true},
		{api.KindDisconnector, true, true, true},
		{api.KindEarth, false, false, true},
		{api.KindInfeed, false, false, false},
		{api.KindGenerator, false, true, true},
		{0, false, false, false},
		{-1, false, false, false},
		{7, false, false, false},
		{8, false, false, false},
	}
	for _, x := range kinds {
		if network.Joins(x.kind) != x.joins || network.Gap(x.kind) != x.gap || network.Operable(x.kind) != x.operable {
			t.Errorf("kind %d", x.kind)
		}
	}
	for _, kind := range strange {
		if network.Joins(kind) || network.Gap(kind) || network.Operable(kind) {
			t.Errorf("%d is no kind", kind)
		}
	}
}

// P3.1: Check.

func TestCheckAccepts(t *testing.T) {
	for name, n := range map[string]api.Network{
		"the station":            station(),
		"the empty one":          {},
		"empty slices":           {Nodes: []api.Node{}, Devices: []api.Device{}},
		"nodes alone":            sized(3, 0),
		"the greatest":           sized(32, 64),
		"parallel devices":       changed(func(n *api.Network) { n.Devices[1].B, n.Devices[2].A = 2, 0 }),
		"the longest names":      changed(func(n *api.Network) { n.Nodes[0].Name, n.Devices[0].Name = "A_2345678901", "A_2345678902" }),
		"names in another case":  changed(func(n *api.Network) { n.Nodes[0].Name, n.Devices[0].Name = "b", "q1" }),
		"the greatest companies": changed(func(n *api.Network) { n.Nodes[0].Company, n.Devices[0].Company = 7, 7 }),
	} {
		if e := network.Check(n); e != api.OK {
			t.Errorf("%s: %v", name, e)
		}
	}
}

func TestCheckLimits(t *testing.T) {
	for _, x := range [][2]int{{33, 0}, {32, 65}, {1, 65}, {33, 65}, {0, 65}, {1000, 1}, {1, 1000}} {
		if e := network.Check(sized(x[0], x[1])); e != api.ErrLimit {
			t.Errorf("%v: %v", x, e)
		}
	}
	many := sized(33, 65)
	many.Nodes[0].Name, many.Devices[0].Kind = "", 9
	if e := network.Check(many); e != api.ErrLimit {
		t.Errorf("the limit is checked first: %v", e)
	}
}

func TestCheckNames(t *testing.T) {
	for _, name := range []string{"", "1", "_A", "A B", "A-", "Ä", "A\n", " A", "A_23456789012", strings.Repeat("A", 1000), "\x00", "A\xff"} {
		if e := network.Check(changed(func(n *api.Network) { n.Nodes[3].Name = name })); e != api.ErrName {
			t.Errorf("node %q: %v", name, e)
		}
		if e := network.Check(changed(func(n *api.Network) { n.Devices[6].Name = name })); e != api.ErrName {
			t.Errorf("device %q: %v", name, e)
		}
	}
}

func TestCheckTwice(t *testing.T) {
	for i, change := range []func(n *api.Network){
		func(n *api.Network) { n.Nodes[1].Name = "A" },
		func(n *api.Network) { n.Nodes[3].Name = "A" },
		func(n *api.Network) { n.Nodes[3].Name = "C" },
		func(n *api.Network) { n.Devices[0].Name = "A" },
		func(n *api.Network) { n.Devices[0].Name = "D" },
		func(n *api.Network) { n.Devices[6].Name = "B" },
		func(n *api.Network) { n.Devices[6].Name = "S" },
		func(n *api.Network) { n.Devices[6].Name = "E1" },
		func(n *api.Network) { n.Devices[1].Name = "S" },
	} {
		if e := network.Check(changed(change)); e != api.ErrTwice {
			t.Errorf("%d: %v", i, e)
		}
	}
}

func TestCheckRanges(t *testing.T) {
	numbers := append([]int{-1}, strange...)
	for _, x := range append(numbers, api.MaxCustomers+1) {
		if e := network.Check(changed(func(n *api.Network) { n.Nodes[2].Customers = x })); e != api.ErrRange {
			t.Errorf("%d customers: %v", x, e)
		}
	}
	for _, x := range append(numbers, 8, 9, 256) {
		if e := network.Check(changed(func(n *api.Network) { n.Nodes[2].Company = x })); e != api.ErrRange {
			t.Errorf("a node of company %d: %v", x, e)
		}
		if e := network.Check(changed(func(n *api.Network) { n.Devices[2].Company = x })); e != api.ErrRange {
			t.Errorf("a device of company %d: %v", x, e)
		}
	}
}

func TestCheckKinds(t *testing.T) {
	for _, kind := range append([]int{-1, 0, 7, 8, 64}, strange...) {
		if e := network.Check(changed(func(n *api.Network) { n.Devices[3].Kind = kind })); e != api.ErrKind {
			t.Errorf("kind %d: %v", kind, e)
		}
	}
}

func TestCheckNodesOfDevices(t *testing.T) {
	for device, d := range station().Devices {
		for _, node := range append([]int{-1, 4, 5, 32}, strange...) {
			if e := network.Check(changed(func(n *api.Network) { n.Devices[device].A = node })); e != api.ErrNode {
				t.Errorf("%s with A %d: %v", d.Name, node, e)
			}
			want := api.ErrNode
			if !network.Joins(d.Kind) && node == -1 {
				want = api.OK
			}
			if e := network.Check(changed(func(n *api.Network) { n.Devices[device].B = node })); e != want {
				t.Errorf("%s with B %d: %v", d.Name, node, e)
			}
		}
		for node := range 4 {
			want := api.ErrNode
			if network.Joins(d.Kind) && node != d.A {
				want = api.OK
			}
			if e := network.Check(changed(func(n *api.Network) { n.Devices[device].B = node })); e != want {
				t.Errorf("%s with B %d: %v", d.Name, node, e)
			}
		}
	}
	alone := sized(0, 1)
	if e := network.Check(alone); e != api.ErrNode {
		t.Errorf("a device without any node: %v", e)
	}
	alone.Devices[0].A = -1
	if e := network.Check(alone); e != api.ErrNode {
		t.Errorf("a device at -1: %v", e)
	}
}

// TestCheckOrder puts errors in one after the other, the last one first: each hides those before it.
func TestCheckOrder(t *testing.T) {
	n := station()
	for i, x := range []struct {
		put  func()
		want api.Errno
	}{
		{func() { n.Devices[6].Company = 8 }, api.ErrRange},
		{func() { n.Devices[6].B = 0 }, api.ErrNode},
		{func() { n.Devices[6].Kind = 0 }, api.ErrKind},
		{func() { n.Devices[6].Name = "A" }, api.ErrTwice},
		{func() { n.Devices[6].Name = "" }, api.ErrName},
		{func() { n.Devices[5].Company = -1 }, api.ErrRange},
		{func() { n.Devices[5].A = 4 }, api.ErrNode},
		{func() { n.Devices[5].Kind = 7 }, api.ErrKind},
		{func() { n.Devices[5].Name = "Q1" }, api.ErrTwice},
		{func() { n.Nodes[3].Company = 8 }, api.ErrRange},
		{func() { n.Nodes[3].Name = "A" }, api.ErrTwice},
		{func() { n.Nodes[3].Name = "a-" }, api.ErrName},
		{func() { n.Nodes[1].Customers = -1 }, api.ErrRange},
		{func() { n.Nodes[1].Name = "A" }, api.ErrTwice},
		{func() { n.Nodes[1].Name = "1" }, api.ErrName},
	} {
		x.put()
		if e := network.Check(n); e != x.want {
			t.Errorf("%d: %v, not %v", i, e, x.want)
		}
	}
}

// TestCheckTwiceNamesTheLaterOne: of two equal names the second one is wrong, after everything of the first one.
func TestCheckTwiceNamesTheLaterOne(t *testing.T) {
	n := changed(func(n *api.Network) { n.Devices[0].Company, n.Devices[1].Name = 8, "S" })
	if e := network.Check(n); e != api.ErrRange {
		t.Errorf("devices: %v", e)
	}
	n = changed(func(n *api.Network) { n.Nodes[0].Company, n.Nodes[1].Name = 8, "A" })
	if e := network.Check(n); e != api.ErrRange {
		t.Errorf("nodes: %v", e)
	}
	n = changed(func(n *api.Network) { n.Nodes[3].Company, n.Devices[0].Name = 8, "A" })
	if e := network.Check(n); e != api.ErrRange {
		t.Errorf("a device with the name of a node: %v", e)
	}
}

// P3.2: Node, Device, At and Other.

func TestNames(t *testing.T) {
	n := station()
	for i, x := range n.Nodes {
		if network.Node(n, x.Name) != i || network.Device(n, x.Name) != -1 {
			t.Errorf("node %s", x.Name)
		}
	}
	for i, x := range n.Devices {
		if network.Device(n, x.Name) != i || network.Node(n, x.Name) != -1 {
			t.Errorf("device %s", x.Name)
		}
	}
	for _, name := range []string{"", "E", "Q", "Q11", "q1", "a", "A ", " A", "\x00", strings.Repeat("A", 100)} {
		if network.Node(n, name) != -1 || network.Device(n, name) != -1 {
			t.Errorf("%q is no name of the station", name)
		}
	}
	if network.Node(api.Network{}, "A") != -1 || network.Device(api.Network{}, "A") != -1 {
		t.Error("the empty network has no names")
	}
}

func TestAt(t *testing.T) {
	n := station()
	for node, want := range [][]int{{0, 1}, {1, 2}, {2, 3, 4, 5}, {3, 4, 6}} {
		if l := network.At(n, node); !slices.Equal(l, want) {
			t.Errorf("at %d: %v", node, l)
		}
	}
	for _, node := range append([]int{-1, 4, 5}, strange...) {
		if l := network.At(n, node); len(l) != 0 {
			t.Errorf("at %d: %v", node, l)
		}
	}
	if l := network.At(sized(2, 3), 1); len(l) != 0 {
		t.Errorf("a node without devices: %v", l)
	}
	if l := network.At(sized(1, 64), 0); len(l) != 64 || !slices.IsSorted(l) {
		t.Errorf("a node with all devices: %v", l)
	}
}

func TestOther(t *testing.T) {
	n := station()
	for device, want := range [][]int{
		{-1, -1, -1, -1},
		{1, 0, -1, -1},
		{-1, 2, 1, -1},
		{-1, -1, 3, 2},
		{-1, -1, 3, 2},
		{-1, -1, -1, -1},
		{-1, -1, -1, -1},
	} {
		for node := range 4 {
			if other := network.Other(n, device, node); other != want[node] {
				t.Errorf("device %d at %d: %d", device, node, other)
			}
		}
		for _, node := range append([]int{-1, 4}, strange...) {
			if other := network.Other(n, device, node); other != -1 {
				t.Errorf("device %d at %d: %d", device, node, other)
			}
		}
	}
	for _, device := range append([]int{-1, 7, 8, 64}, strange...) {
		if other := network.Other(n, device, 1); other != -1 {
			t.Errorf("device %d: %d", device, other)
		}
	}
}

// TestInvalidNetworks: functions without an error answer as the rule R8 says, also where the error is far from what they are asked for.
func TestInvalidNetworks(t *testing.T) {
	for name, n := range map[string]api.Network{
		"a name":     changed(func(n *api.Network) { n.Devices[6].Name = "" }),
		"a kind":     changed(func(n *api.Network) { n.Devices[6].Kind = 0 }),
		"a node":     changed(func(n *api.Network) { n.Devices[6].A = 9 }),
		"a company":  changed(func(n *api.Network) { n.Nodes[3].Company = 8 }),
		"too many":   changed(func(n *api.Network) { n.Nodes = append(n.Nodes, sized(29, 0).Nodes...) }),
		"no nodes":   changed(func(n *api.Network) { n.Nodes = nil }),
		"a customer": changed(func(n *api.Network) { n.Nodes[3].Customers = -1 }),
	} {
		if network.Node(n, "B") != -1 || network.Device(n, "Q1") != -1 {
			t.Errorf("%s: names", name)
		}
		if l := network.At(n, 0); len(l) != 0 {
			t.Errorf("%s: %v", name, l)
		}
		if other := network.Other(n, 1, 0); other != -1 {
			t.Errorf("%s: %d", name, other)
		}
	}
}

// P3.3: Way.

func wantWay(t *testing.T, n api.Network, use []bool, from, to int, want ...int) {
	t.Helper()
	l, ok, e := network.Way(n, use, from, to)
	if !ok || e != api.OK || !slices.Equal(l, want) {
		t.Errorf("from %d to %d: %v %v %v, not %v", from, to, l, ok, e, want)
	}
}

func wantNoWay(t *testing.T, n api.Network, use []bool, from, to int, want api.Errno) {
	t.Helper()
	l, ok, e := network.Way(n, use, from, to)
	if ok || e != want || len(l) != 0 {
		t.Errorf("from %d to %d: %v %v %v", from, to, l, ok, e)
	}
}

func TestWay(t *testing.T) {
	n := station()
	use := allTrue(n)
	wantWay(t, n, use, 0, 1, 1)
	wantWay(t, n, use, 1, 0, 1)
	wantWay(t, n, use, 0, 3, 1, 2, 3)
	wantWay(t, n, use, 3, 0, 3, 2, 1)
	use[3] = false
	wantWay(t, n, use, 0, 3, 1, 2, 4)
	use[4] = false
	wantNoWay(t, n, use, 0, 3, api.OK)
	wantNoWay(t, n, use, 3, 2, api.OK)
	wantWay(t, n, use, 2, 0, 2, 1)
}

func TestWayToItself(t *testing.T) {
	n := station()
	for node := range 4 {
		wantWay(t, n, allTrue(n), node, node)
		wantWay(t, n, make([]bool, 7), node, node)
	}
	wantWay(t, sized(1, 0), nil, 0, 0)
	wantWay(t, sized(1, 0), []bool{}, 0, 0)
}

// TestWayOverWhatJoins: nobody goes through the earth, or from source to source.
func TestWayOverWhatJoins(t *testing.T) {
	for kind := api.KindEarth; kind <= api.KindGenerator; kind++ {
		n := sized(2, 2)
		for i := range n.Devices {
			n.Devices[i].Kind, n.Devices[i].A = kind, i
		}
		wantNoWay(t, n, allTrue(n), 0, 1, api.OK)
	}
	for kind := api.KindLine; kind <= api.KindDisconnector; kind++ {
		n := sized(2, 1)
		n.Devices[0].Kind, n.Devices[0].B = kind, 1
		wantWay(t, n, allTrue(n), 0, 1, 0)
		wantWay(t, n, allTrue(n), 1, 0, 0)
	}
}

// joined returns a network of lines between so many nodes.
func joined(nodes int, lines ...[2]int) api.Network {
	n := sized(nodes, len(lines))
	for i, l := range lines {
		n.Devices[i] = api.Device{Name: fmt.Sprintf("L%d", i), Kind: api.KindLine, A: l[0], B: l[1]}
	}
	return n
}

func TestWayWithFewestDevices(t *testing.T) {
	// The devices with the least indices make the longer way.
	n := joined(4, [2]int{0, 1}, [2]int{1, 2}, [2]int{2, 3}, [2]int{3, 1}, [2]int{0, 3})
	wantWay(t, n, allTrue(n), 0, 3, 4)
	n.Devices[4].B = 2
	wantWay(t, n, allTrue(n), 0, 3, 0, 3)
}

func TestWayThatIsFirst(t *testing.T) {
	// Two ways of two devices: the one whose first device is less, though its second one is greater.
	n := joined(4, [2]int{2, 3}, [2]int{0, 1}, [2]int{0, 2}, [2]int{1, 3})
	wantWay(t, n, allTrue(n), 0, 3, 1, 3)
	wantWay(t, n, allTrue(n), 3, 0, 0, 2)
	// Parallel lines: the first one of each pair, however it is turned.
	n = joined(3, [2]int{1, 0}, [2]int{0, 1}, [2]int{2, 1}, [2]int{1, 2})
	wantWay(t, n, allTrue(n), 0, 2, 0, 2)
	wantWay(t, n, []bool{false, true, true, true}, 0, 2, 1, 2)
	// The first ways are equal at their beginning and part later.
	n = joined(5, [2]int{0, 1}, [2]int{2, 4}, [2]int{1, 3}, [2]int{1, 2}, [2]int{3, 4})
	wantWay(t, n, allTrue(n), 0, 4, 0, 2, 4)
	// A least device that leads away does not count.
	n = joined(4, [2]int{1, 3}, [2]int{1, 0}, [2]int{1, 2})
	wantWay(t, n, allTrue(n), 1, 2, 2)
}

func TestWayThroughTheGreatestNetwork(t *testing.T) {
	var lines [][2]int
	var want []int
	for i := range 31 {
		lines = append(lines, [2]int{i + 1, i}, [2]int{i, i + 1})
		want = append(want, 2*i)
	}
	n := joined(32, lines...)
	wantWay(t, n, allTrue(n), 0, 31, want...)
	slices.Reverse(want)
	wantWay(t, n, allTrue(n), 31, 0, want...)
	use := allTrue(n)
	use[30], use[31] = false, false
	wantNoWay(t, n, use, 0, 31, api.OK)
}

func TestWayErrors(t *testing.T) {
	n := station()
	broken := changed(func(n *api.Network) { n.Devices[6].Kind = 9 })
	wantNoWay(t, broken, allTrue(n)[:3], -1, 9, api.ErrKind)
	wantNoWay(t, broken, allTrue(n), 0, 0, api.ErrKind)
	for _, length := range []int{0, 1, 6, 8, 100} {
		wantNoWay(t, n, make([]bool, length), 0, 0, api.ErrLength)
		wantNoWay(t, n, make([]bool, length), -1, 4, api.ErrLength)
	}
	wantNoWay(t, n, nil, 0, 1, api.ErrLength)
	for _, node := range append([]int{-1, 4, 5, 32}, strange...) {
		wantNoWay(t, n, allTrue(n), node, 0, api.ErrNode)
		wantNoWay(t, n, allTrue(n), 0, node, api.ErrNode)
		wantNoWay(t, n, allTrue(n), node, node, api.ErrNode)
	}
	wantNoWay(t, api.Network{}, nil, 0, 0, api.ErrNode)
	wantNoWay(t, api.Network{}, []bool{true}, 0, 0, api.ErrLength)
}

// ways tells all ways that pass no node twice, one after the other.
func ways(n api.Network, use []bool, node, to int, passed []bool, way []int, tell func(way []int)) {
	if node == to {
		tell(way)
		return
	}
	passed[node] = true
	for i, d := range n.Devices {
		if !use[i] || d.Kind > api.KindDisconnector || d.A != node && d.B != node {
			continue
		}
		if next := d.A + d.B - node; !passed[next] {
			ways(n, use, next, to, passed, append(way, i), tell)
		}
	}
	passed[node] = false
}

// firstWay returns the best of all ways.
func firstWay(n api.Network, use []bool, from, to int) ([]int, bool) {
	var best []int
	found := false
	ways(n, use, from, to, make([]bool, len(n.Nodes)), nil, func(way []int) {
		if !found || len(way) < len(best) || len(way) == len(best) && slices.Compare(way, best) < 0 {
			best, found = slices.Clone(way), true
		}
	})
	return best, found
}

// randomNetwork returns a valid network with devices of all kinds.
func randomNetwork(r *rand.Rand) api.Network {
	n := sized(2+r.Intn(5), r.Intn(12))
	for i := range n.Devices {
		d := &n.Devices[i]
		d.Kind, d.A = 1+r.Intn(6), r.Intn(len(n.Nodes))
		if r.Intn(3) > 0 {
			d.Kind = api.KindLine
		}
		if network.Joins(d.Kind) {
			d.B = (d.A + 1 + r.Intn(len(n.Nodes)-1)) % len(n.Nodes)
		}
	}
	return n
}

func TestWayOfAllWays(t *testing.T) {
	r := rand.New(rand.NewSource(3))
	for range 3000 {
		n := randomNetwork(r)
		use := make([]bool, len(n.Devices))
		for i := range use {
			use[i] = r.Intn(5) > 0
		}
		from, to := r.Intn(len(n.Nodes)), r.Intn(len(n.Nodes))
		want, found := firstWay(n, use, from, to)
		l, ok, e := network.Way(n, use, from, to)
		if e != api.OK || ok != found || !slices.Equal(l, want) {
			t.Fatalf("%v %v from %d to %d: %v %v %v, not %v", n, use, from, to, l, ok, e, want)
		}
		wantPath(t, n, l, from, to, ok)
	}
}

// wantPath is the chapter's consequence: a way goes from node to node, and passes none twice.
func wantPath(t *testing.T, n api.Network, way []int, from, to int, ok bool) {
	t.Helper()
	passed := map[int]bool{from: true}
	node := from
	for _, device := range way {
		node = network.Other(n, device, node)
		if node < 0 || passed[node] {
			t.Fatalf("%v: %v", n, way)
		}
		passed[node] = true
	}
	if ok && node != to {
		t.Fatalf("%v: %v ends at %d, not at %d", n, way, node, to)
	}
}

// R1 and R2: nothing is changed, kept or shared.

func TestNothingIsChangedOrShared(t *testing.T) {
	n, use := station(), allTrue(station())
	for range 2 {
		if network.Check(n) != api.OK || network.Node(n, "C") != 2 || network.Other(n, 1, 0) != 1 {
			t.Error("the station")
		}
		at, again := network.At(n, 2), network.At(n, 2)
		at[0] = 99
		if again[0] != 2 {
			t.Error("lists of devices share memory")
		}
		way, _, _ := network.Way(n, use, 0, 3)
		second, _, _ := network.Way(n, use, 0, 3)
		way[0] = 99
		if second[0] != 1 {
			t.Error("ways share memory")
		}
		if !reflect.DeepEqual(n, station()) || !slices.Equal(use, allTrue(n)) {
			t.Error("an argument was changed")
		}
	}
}

// TestNothingPanics gives malformed networks to every function.
func TestNothingPanics(t *testing.T) {
	r := rand.New(rand.NewSource(33))
	numbers := append([]int{-1, 0, 1, 2, 3, 4, 5, 6, 7}, strange...)
	number := func() int { return numbers[r.Intn(len(numbers))] }
	for range 5000 {
		n := randomNetwork(r)
		for range r.Intn(4) {
			if len(n.Devices) > 0 {
				d := &n.Devices[r.Intn(len(n.Devices))]
				*[]*int{&d.Kind, &d.A, &d.B, &d.Company}[r.Intn(4)] = number()
			}
		}
		if r.Intn(4) == 0 {
			n.Nodes = n.Nodes[:r.Intn(len(n.Nodes))]
		}
		use := make([]bool, r.Intn(14))
		network.Node(n, "N1")
		network.Device(n, "E1")
		network.At(n, number())
		network.Other(n, number(), number())
		l, ok, e := network.Way(n, use, number(), number())
		if checked := network.Check(n); checked != api.OK && (e != checked || ok || len(l) != 0) {
			t.Fatalf("%v: %v %v %v, not %v", n, l, ok, e, checked)
		}
	}
}
