package modeltext_test

import (
	"fmt"
	"math"
	"math/rand"
	"reflect"
	"regexp"
	"slices"
	"strconv"
	"strings"
	"testing"

	"permitoffice/api"
	"permitoffice/modeltext"
	"permitoffice/network"
)

// feeder returns a valid network with every kind of device.
func feeder() api.Network {
	return api.Network{
		Nodes: []api.Node{
			{Name: "A"},
			{Name: "B_2", Company: 7},
			{Name: "c", Customers: api.MaxCustomers, Company: 1},
		},
		Devices: []api.Device{
			{Name: "S", Kind: api.KindInfeed, A: 0, B: -1, Company: 2},
			{Name: "Q1", Kind: api.KindBreaker, A: 0, B: 1},
			{Name: "D1", Kind: api.KindDisconnector, A: 2, B: 1, Company: 7},
			{Name: "L1", Kind: api.KindLine, A: 1, B: 2, Company: 3},
			{Name: "E1", Kind: api.KindEarth, A: 2, B: -1},
			{Name: "G1", Kind: api.KindGenerator, A: 1, B: -1, Company: 1},
		},
	}
}

const feederText = "node A customers 0 company 0\n" +
	"node B_2 customers 0 company 7\n" +
	"node c customers 1048576 company 1\n" +
	"infeed S A company 2\n" +
	"breaker Q1 A B_2 company 0\n" +
	"disconnector D1 c B_2 company 7\n" +
	"line L1 B_2 c company 3\n" +
	"earth E1 c company 0\n" +
	"generator G1 B_2 company 1\n"

// twoNodes are the lines 1 and 2 before lines of devices.
const twoNodes = "node A customers 0 company 0\nnode B customers 5 company 1\n"

// changed returns the feeder after a change.
func changed(change func(n *api.Network)) api.Network {
	n := feeder()
	change(&n)
	return n
}

// greatest returns a network at all limits, with the longest lines.
func greatest() api.Network {
	var n api.Network
	for i := range api.MaxNodes {
		n.Nodes = append(n.Nodes, api.Node{Name: fmt.Sprintf("Node_%07d", i), Customers: api.MaxCustomers, Company: api.MaxCompany})
	}
	for i := range api.MaxDevices {
		n.Devices = append(n.Devices, api.Device{Name: fmt.Sprintf("Device_%05d", i), Kind: api.KindDisconnector, A: i % 32, B: (i*7 + 5) % 32, Company: api.MaxCompany})
	}
	return n
}

func wantPrint(t *testing.T, n api.Network, want string) {
	t.Helper()
	if s, e := modeltext.Print(n); s != want || e != api.OK {
		t.Errorf("%v: %q %v, not %q", n, s, e, want)
	}
}

func wantParse(t *testing.T, s string, want api.Network) {
	t.Helper()
	n, line, e := modeltext.Parse(s)
	if line != 0 || e != api.OK || !slices.Equal(n.Nodes, want.Nodes) || !slices.Equal(n.Devices, want.Devices) {
		t.Errorf("%q: %v %d %v, not %v", s, n, line, e, want)
	}
}

func wantError(t *testing.T, s string, line int, want api.Errno) {
	t.Helper()
	n, at, e := modeltext.Parse(s)
	if at != line || e != want || len(n.Nodes) != 0 || len(n.Devices) != 0 {
		t.Errorf("%.200q: %v %d %v, not %d %v", s, n, at, e, line, want)
	}
}

// P4.1: Print.

func TestPrint(t *testing.T) {
	wantPrint(t, feeder(), feederText)
	wantPrint(t, api.Network{}, "")
	wantPrint(t, api.Network{Nodes: []api.Node{}, Devices: []api.Device{}}, "")
	wantPrint(t, api.Network{Nodes: []api.Node{{Name: "N", Customers: 12, Company: 4}}}, "node N customers 12 company 4\n")
}

func TestPrintKeepsTheOrder(t *testing.T) {
	n := changed(func(n *api.Network) {
		n.Nodes[0], n.Nodes[2] = n.Nodes[2], n.Nodes[0]
		n.Devices = []api.Device{n.Devices[3], n.Devices[0]}
	})
	wantPrint(t, n, "node c customers 1048576 company 1\nnode B_2 customers 0 company 7\nnode A customers 0 company 0\n"+
		"line L1 B_2 A company 3\ninfeed S c company 2\n")
}

func TestPrintErrors(t *testing.T) {
	tooMany := greatest()
	tooMany.Nodes = append(tooMany.Nodes, api.Node{Name: "More"})
	moreDevices := greatest()
	moreDevices.Devices = append(moreDevices.Devices, api.Device{Name: "More", Kind: api.KindEarth, B: -1})
	for _, x := range []struct {
		n    api.Network
		want api.Errno
	}{
		{tooMany, api.ErrLimit},
		{moreDevices, api.ErrLimit},
		{changed(func(n *api.Network) { n.Nodes[1].Name = "" }), api.ErrName},
		{changed(func(n *api.Network) { n.Nodes[1].Name = "B 2" }), api.ErrName},
		{changed(func(n *api.Network) { n.Nodes[1].Name = "A" }), api.ErrTwice},
		{changed(func(n *api.Network) { n.Nodes[1].Customers = -1 }), api.ErrRange},
		{changed(func(n *api.Network) { n.Nodes[1].Customers = api.MaxCustomers + 1 }), api.ErrRange},
		{changed(func(n *api.Network) { n.Nodes[1].Company = 8 }), api.ErrRange},
		{changed(func(n *api.Network) { n.Devices[1].Name = "Q\n" }), api.ErrName},
		{changed(func(n *api.Network) { n.Devices[1].Name = "S" }), api.ErrTwice},
		{changed(func(n *api.Network) { n.Devices[1].Kind = 0 }), api.ErrKind},
		{changed(func(n *api.Network) { n.Devices[1].Kind = 7 }), api.ErrKind},
		{changed(func(n *api.Network) { n.Devices[1].Kind = math.MinInt }), api.ErrKind},
		{changed(func(n *api.Network) { n.Devices[1].A = 3 }), api.ErrNode},
		{changed(func(n *api.Network) { n.Devices[1].B = -1 }), api.ErrNode},
		{changed(func(n *api.Network) { n.Devices[4].B = 0 }), api.ErrNode},
		{changed(func(n *api.Network) { n.Devices[5].Company = -1 }), api.ErrRange},
		{changed(func(n *api.Network) { n.Nodes[2].Company, n.Devices[0].Kind = -1, 9 }), api.ErrRange},
	} {
		if s, e := modeltext.Print(x.n); s != "" || e != x.want {
			t.Errorf("%v: %q %v, not %v", x.n, s, e, x.want)
		}
	}
}

// P4.2: Parse.

func TestParse(t *testing.T) {
	wantParse(t, feederText, feeder())
	wantParse(t, "", api.Network{})
	wantParse(t, "\n", api.Network{})
	wantParse(t, "node N customers 12 company 4\n", api.Network{Nodes: []api.Node{{Name: "N", Customers: 12, Company: 4}}})
}

func TestParseEveryKind(t *testing.T) {
	for kind, line := range []string{
		api.KindLine:         "line X B A company 3\n",
		api.KindBreaker:      "breaker X B A company 3\n",
		api.KindDisconnector: "disconnector X B A company 3\n",
		api.KindEarth:        "earth X B company 3\n",
		api.KindInfeed:       "infeed X B company 3\n",
		api.KindGenerator:    "generator X B company 3\n",
	} {
		if kind == 0 {
			continue
		}
		want := api.Device{Name: "X", Kind: kind, A: 1, B: -1, Company: 3}
		if network.Joins(kind) {
			want.B = 0
		}
		n, at, e := modeltext.Parse(twoNodes + line)
		if at != 0 || e != api.OK || len(n.Nodes) != 2 || len(n.Devices) != 1 || n.Devices[0] != want {
			t.Errorf("%q: %v %d %v", line, n, at, e)
		}
	}
}

func TestParseSpacesAndNotes(t *testing.T) {
	want := api.Network{
		Nodes:   []api.Node{{Name: "A", Customers: 1}, {Name: "B"}},
		Devices: []api.Device{{Name: "L", Kind: api.KindLine, A: 1, B: 0, Company: 2}},
	}
	plain := []string{"node A customers 1 company 0", "node B customers 0 company 0", "line L B A company 2"}
	wantParse(t, strings.Join(plain, "\n")+"\n", want)
	wide := strings.ReplaceAll(strings.Join(plain, "\n")+"\n", " ", "    ")
	wantParse(t, wide, want)
	wantParse(t, "  "+strings.ReplaceAll(wide, "\n", "  \n"), want)
	for _, idle := range []string{"", " ", "      ", "#", "# node A customers 1 company 0", "#node", "##", "   # a note", "#earth E X company 9", "#~ 0 \\ ;"} {
		wantParse(t, idle+"\n"+strings.Join(plain, "\n"+idle+"\n"+idle+"\n")+"\n"+idle+"\n", want)
		wantError(t, idle+"\n"+idle+"\nnode\n", 3, api.ErrSyntax)
		wantParse(t, idle+"\n", api.Network{})
	}
	// Only a line that begins with the sign is a note.
	wantError(t, "node A customers 1 company 0 # a note\n", 1, api.ErrSyntax)
	wantError(t, "node #A customers 1 company 0\n", 0, api.ErrName)
	wantError(t, "\"# a note\n", 1, api.ErrSyntax)
}

func TestParseKeepsTheOrderOfLines(t *testing.T) {
	wantParse(t, "node B customers 0 company 0\nearth E2 B company 0\nnode A customers 0 company 0\n"+
		"line L A B company 0\ninfeed S A company 0\nnode C customers 0 company 0\nearth E1 C company 0\n",
		api.Network{
			Nodes: []api.Node{{Name: "B"}, {Name: "A"}, {Name: "C"}},
			Devices: []api.Device{
				{Name: "E2", Kind: api.KindEarth, A: 0, B: -1},
				{Name: "L", Kind: api.KindLine, A: 1, B: 0},
				{Name: "S", Kind: api.KindInfeed, A: 1, B: -1},
				{Name: "E1", Kind: api.KindEarth, A: 2, B: -1},
			},
		})
}

func TestParseNoText(t *testing.T) {
	for _, s := range []string{
		"node A customers 0 company 0",
		"node A customers 0 company 0\nx",
		"\tnode A customers 0 company 0\n",
		"node\tA customers 0 company 0\n",
		"node A customers 0 company 0\r\n",
		"# caf\xc3\xa9\n",
		"\x00\n",
		"\x7f\n",
		"fuse\n\x01\n",
		" ",
		strings.Repeat("\n", api.MaxText+1),
		"fuse\n" + strings.Repeat("#", api.MaxText) + "\n",
	} {
		wantError(t, s, 0, api.ErrSyntax)
	}
	wantParse(t, strings.Repeat("\n", api.MaxText), api.Network{})
	wantParse(t, strings.Repeat("#", api.MaxText-1)+"\n", api.Network{})
	wantError(t, strings.Repeat("\n", api.MaxText-2)+"x\n", api.MaxText-1, api.ErrSyntax)
}

func TestParseLinesWithoutTheForm(t *testing.T) {
	for _, line := range []string{
		"node", "node X", "node X customers", "node X customers 0", "node X customers 0 company",
		"node X customers 0 company 0 0", "node X customers 0 company 0 company 0", "node X customers company 0",
		"node X company 0 customers 0", "node X company 0", "node X customer 0 company 0", "node X customers 0 Company 0",
		"node X customers A company 0", "node X customers 0 company x", "node customers 0 company 0",
		"Node X customers 0 company 0", "nodes X customers 0 company 0", "X", "0", "company", "customers 0",
		"line", "line X", "line X A", "line X A B", "line X A B company", "line X A B company 0 0", "line X A company 0",
		"line A B company 0", "line X A B A company 0", "line X A B customers 0", "line X A B Company 0", "line X A B 0 company",
		"line X A B company A", "Line X A B company 0", "lines X A B company 0", "line1 X A B company 0",
		"breaker X A company 0", "disconnector X A company 0", "breaker X A B B company 0", "disconnector X A B",
		"earth X A B company 0", "infeed X A B company 0", "generator X A B company 0", "earth X company 0", "earth", "infeed X A",
		"generator X A company", "earth X A company 0 0", "infeed X A customers 0", "EARTH X A company 0", "fuse X A company 0",
		"switch X A B company 0", "generators X A company 0", "!# X", "earth X -1 A company 0",
	} {
		wantError(t, twoNodes+line+"\n", 3, api.ErrSyntax)
		wantError(t, twoNodes+"\n# a note\n"+line+"\nearth E A company 0\n", 5, api.ErrSyntax)
	}
}

func TestParseNumbers(t *testing.T) {
	for _, number := range []string{"00", "01", "-1", "+1", "1_0", "0x1", "1.0", "1e3", "1073741825", "2147483648", "9223372036854775807", "9223372036854775808", "18446744073709551616", strings.Repeat("9", 100)} {
		wantError(t, twoNodes+"node X customers "+number+" company 0\n", 3, api.ErrSyntax)
		wantError(t, twoNodes+"node X customers 0 company "+number+"\n", 3, api.ErrSyntax)
		wantError(t, twoNodes+"line X A B company "+number+"\n", 3, api.ErrSyntax)
		wantError(t, twoNodes+"earth X A company "+number+"\n", 3, api.ErrSyntax)
	}
	// Such numbers have the form, but are no numbers of a network.
	for _, number := range []string{"1048577", "1073741823", "1073741824"} {
		wantError(t, twoNodes+"node X customers "+number+" company 0\n", 0, api.ErrRange)
	}
	for _, number := range []string{"8", "1073741823", "1073741824"} {
		wantError(t, twoNodes+"node X customers 0 company "+number+"\n", 0, api.ErrRange)
		wantError(t, twoNodes+"line X A B company "+number+"\n", 0, api.ErrRange)
		wantError(t, twoNodes+"earth X A company "+number+"\n", 0, api.ErrRange)
	}
}

func TestParseUnknownNodes(t *testing.T) {
	for _, line := range []string{
		"line X A C company 0", "breaker X C A company 0", "disconnector X C D company 0", "line X A a company 0", "earth X C company 0",
		"infeed X b company 0", "generator X AB company 0", "earth X X company 0", "line X A 0 company 0", "earth X 1 company 0",
		"earth X -1 company 0", "line X A B_ company 0", "line company customers node company 0", "earth X ! company 8",
	} {
		wantError(t, twoNodes+line+"\n", 3, api.ErrName)
		// A later line does not make it known.
		wantError(t, twoNodes+line+"\nnode C customers 0 company 0\nnode D customers 0 company 0\nnode a customers 0 company 0\n", 3, api.ErrName)
		// What its line has not, comes first.
		wantError(t, twoNodes+line+"0000000000\n", 3, api.ErrSyntax)
		wantError(t, twoNodes+line+" 0\n", 3, api.ErrSyntax)
	}
	wantError(t, "line L A B company 0\n"+twoNodes, 1, api.ErrName)
	wantError(t, "node A customers 0 company 0\nearth E B company 0\nnode B customers 0 company 0\n", 2, api.ErrName)
	// A device is no node.
	wantError(t, twoNodes+"earth E A company 0\nearth F E company 0\n", 4, api.ErrName)
}

func TestParseWordsAsNames(t *testing.T) {
	wantParse(t, "node node customers 0 company 0\nnode company customers 0 company 0\nline customers node company company 0\nearth line node company 0\n",
		api.Network{
			Nodes: []api.Node{{Name: "node"}, {Name: "company"}},
			Devices: []api.Device{
				{Name: "customers", Kind: api.KindLine, A: 0, B: 1},
				{Name: "line", Kind: api.KindEarth, A: 0, B: -1},
			},
		})
}

func TestParseFirstLineWithAnError(t *testing.T) {
	wantError(t, "earth E A company 0\nfuse\n", 1, api.ErrName)
	wantError(t, "fuse\nearth E A company 0\n", 1, api.ErrSyntax)
	wantError(t, twoNodes+"line L A A company 9\nline 1 A B company 0\nearth E C company 0\n", 5, api.ErrName)
	wantError(t, "node 1 customers 9999999 company 9\nnode\n", 2, api.ErrSyntax)
	wantError(t, strings.Repeat("node A customers 0 company 0\n", 40)+"x\n", 41, api.ErrSyntax)
}

func TestParseNetworksThatAreNotValid(t *testing.T) {
	many, _ := modeltext.Print(greatest())
	for _, x := range []struct {
		s    string
		want api.Errno
	}{
		{many + "node More customers 0 company 0\n", api.ErrLimit},
		{many + "earth More Node_0000031 company 0\n", api.ErrLimit},
		{"node 1 customers 0 company 9\n" + many + "earth More Node_0000031 company 0\n", api.ErrLimit},
		{"node 1 customers 0 company 0\n", api.ErrName},
		{"node A- customers 0 company 0\nearth E A- company 0\n", api.ErrName},
		{"node A123456789012 customers 0 company 0\n", api.ErrName},
		{twoNodes + "earth _E A company 0\n", api.ErrName},
		{twoNodes + "node A customers 0 company 0\nearth E A company 0\n", api.ErrTwice},
		{twoNodes + "earth A A company 0\n", api.ErrTwice},
		{twoNodes + "earth C A company 0\nnode C customers 0 company 0\n", api.ErrTwice},
		{twoNodes + "earth E A company 0\nline E A B company 0\n", api.ErrTwice},
		{twoNodes + "line L B B company 0\n", api.ErrNode},
		{twoNodes + "line L B B company 8\n", api.ErrNode},
		{twoNodes + "earth 9 A company 0\nnode C customers 0 company 8\n", api.ErrRange},
	} {
		wantError(t, x.s, 0, x.want)
	}
}

// The forms of lines, read in another way than the layer does.
var (
	idleForm   = regexp.MustCompile(`^ *(#.*)?$`)
	nodeForm   = regexp.MustCompile(`^ *node +([^ ]+) +customers +(0|[1-9][0-9]*) +company +(0|[1-9][0-9]*) *$`)
	joinerForm = regexp.MustCompile(`^ *(line|breaker|disconnector) +([^ ]+) +([^ ]+) +([^ ]+) +company +(0|[1-9][0-9]*) *$`)
	singleForm = regexp.MustCompile(`^ *(earth|infeed|generator) +([^ ]+) +([^ ]+) +company +(0|[1-9][0-9]*) *$`)
)

var kinds = map[string]int{"line": 1, "breaker": 2, "disconnector": 3, "earth": 4, "infeed": 5, "generator": 6}

// number returns a number of a form, or -1 if it is more than may be read.
func number(digits string) int {
	n, err := strconv.ParseUint(digits, 10, 64)
	if err != nil || n > 1<<30 {
		return -1
	}
	return int(n)
}

// readWithForms is Parse with regular expressions.
func readWithForms(s string) (api.Network, int, api.Errno) {
	var n api.Network
	known := map[string]int{}
	index := func(name string) int {
		if i, ok := known[name]; ok {
			return i
		}
		return -1
	}
	for i, line := range strings.Split(strings.TrimSuffix(s, "\n"), "\n") {
		node, joiner, single := nodeForm.FindStringSubmatch(line), joinerForm.FindStringSubmatch(line), singleForm.FindStringSubmatch(line)
		switch {
		case idleForm.MatchString(line):
		case node != nil && number(node[2]) >= 0 && number(node[3]) >= 0:
			known[node[1]] = len(n.Nodes)
			n.Nodes = append(n.Nodes, api.Node{Name: node[1], Customers: number(node[2]), Company: number(node[3])})
		case joiner != nil && number(joiner[5]) >= 0:
			a, b := index(joiner[3]), index(joiner[4])
			if a < 0 || b < 0 {
				return api.Network{}, i + 1, api.ErrName
			}
			n.Devices = append(n.Devices, api.Device{Name: joiner[2], Kind: kinds[joiner[1]], A: a, B: b, Company: number(joiner[5])})
		case single != nil && number(single[4]) >= 0:
			a := index(single[3])
			if a < 0 {
				return api.Network{}, i + 1, api.ErrName
			}
			n.Devices = append(n.Devices, api.Device{Name: single[2], Kind: kinds[single[1]], A: a, B: -1, Company: number(single[4])})
		default:
			return api.Network{}, i + 1, api.ErrSyntax
		}
	}
	if e := network.Check(n); e != api.OK {
		return api.Network{}, 0, e
	}
	return n, 0, api.OK
}

// randomText returns lines that mostly have their form.
func randomText(r *rand.Rand) string {
	pick := func(words ...string) string { return words[r.Intn(len(words))] }
	name := func() string { return pick("A", "B", "C", "D", "E", "F") }
	few := func() string {
		if r.Intn(20) == 0 {
			return pick("8", "07", "1048577", "1073741825")
		}
		return strconv.Itoa(r.Intn(8))
	}
	var text strings.Builder
	for i := range 2 + r.Intn(8) {
		words := []string{"node", fmt.Sprintf("%s%d", name(), i), "customers", few(), "company", few()}
		switch {
		case i < 2 || r.Intn(5) == 0:
			if r.Intn(10) > 0 {
				words[1] = name()
			}
		case r.Intn(2) == 0:
			words = []string{pick("line", "breaker", "disconnector"), words[1], name(), name(), "company", few()}
		default:
			words = []string{pick("earth", "infeed", "generator"), words[1], name(), "company", few()}
		}
		switch r.Intn(40) {
		case 0:
			words = words[:r.Intn(len(words))]
		case 1:
			words = append(words, name())
		case 2:
			words[r.Intn(len(words))] = pick("#", "node", "line", "earth", "company", "customers", "0")
		case 3:
			words = slices.Insert(words, 0, pick("#", "# ", "#note", ""))
		}
		text.WriteString(strings.Join(words, pick(" ", " ", "  ")) + pick("\n", "\n", " \n", "\n\n"))
	}
	return text.String()
}

func TestParseRandomTexts(t *testing.T) {
	r := rand.New(rand.NewSource(4))
	ends := map[api.Errno]int{}
	for range 40000 {
		s := randomText(r)
		want, wantLine, wantE := readWithForms(s)
		ends[wantE]++
		if wantE != api.OK {
			wantError(t, s, wantLine, wantE)
		} else {
			wantParse(t, s, want)
		}
		if t.Failed() {
			return
		}
	}
	for _, e := range []api.Errno{api.OK, api.ErrSyntax, api.ErrName, api.ErrTwice, api.ErrNode, api.ErrRange} {
		if ends[e] < 50 {
			t.Errorf("only %d texts end with %v", ends[e], e)
		}
	}
}

// The chapter's consequence: Parse of Print is the network.

// randomNetwork returns a valid network.
func randomNetwork(r *rand.Rand) api.Network {
	var n api.Network
	for i := range r.Intn(api.MaxNodes + 1) {
		n.Nodes = append(n.Nodes, api.Node{Name: fmt.Sprintf("N_%d", i), Customers: r.Intn(2) * r.Intn(api.MaxCustomers+1), Company: r.Intn(8)})
	}
	if len(n.Nodes) < 2 {
		return n
	}
	for i := range r.Intn(api.MaxDevices + 1) {
		d := api.Device{Name: fmt.Sprintf("d%d", i), Kind: 1 + r.Intn(6), A: r.Intn(len(n.Nodes)), B: -1, Company: r.Intn(8)}
		if network.Joins(d.Kind) {
			d.B = (d.A + 1 + r.Intn(len(n.Nodes)-1)) % len(n.Nodes)
		}
		n.Devices = append(n.Devices, d)
	}
	return n
}

func TestParseOfPrint(t *testing.T) {
	r := rand.New(rand.NewSource(44))
	networks := []api.Network{{}, feeder(), greatest()}
	for range 2000 {
		networks = append(networks, randomNetwork(r))
	}
	for _, n := range networks {
		s, e := modeltext.Print(n)
		if e != api.OK {
			t.Fatalf("%v: %v", n, e)
		}
		wantParse(t, s, n)
		back, _, _ := modeltext.Parse(s)
		if !modeltext.Same(n, back) {
			t.Fatalf("%v is not the same as %v", back, n)
		}
		if again, e := modeltext.Print(back); again != s || e != api.OK {
			t.Fatalf("%q comes back as %q", s, again)
		}
	}
}

// P4.3: Same.

func TestSame(t *testing.T) {
	if !modeltext.Same(feeder(), feeder()) || !modeltext.Same(greatest(), greatest()) || !modeltext.Same(api.Network{}, api.Network{}) {
		t.Error("equal networks")
	}
	if !modeltext.Same(api.Network{}, api.Network{Nodes: []api.Node{}, Devices: []api.Device{}}) {
		t.Error("nil slices and empty ones are equal")
	}
}

func TestNotSame(t *testing.T) {
	for i, change := range []func(n *api.Network){
		func(n *api.Network) { n.Nodes[0].Name = "a" },
		func(n *api.Network) { n.Nodes[2].Customers-- },
		func(n *api.Network) { n.Nodes[0].Company = 1 },
		func(n *api.Network) { n.Nodes[0], n.Nodes[1] = n.Nodes[1], n.Nodes[0] },
		func(n *api.Network) { n.Nodes = append(n.Nodes, api.Node{Name: "X"}) },
		func(n *api.Network) { n.Devices[0].Name = "s" },
		func(n *api.Network) { n.Devices[1].Kind = api.KindLine },
		func(n *api.Network) { n.Devices[0].A = 1 },
		func(n *api.Network) { n.Devices[1].B = 2 },
		func(n *api.Network) { n.Devices[3].A, n.Devices[3].B = n.Devices[3].B, n.Devices[3].A },
		func(n *api.Network) { n.Devices[5].Company = 0 },
		func(n *api.Network) { n.Devices[0], n.Devices[1] = n.Devices[1], n.Devices[0] },
		func(n *api.Network) { n.Devices = n.Devices[:5] },
		func(n *api.Network) { n.Devices = nil },
		func(n *api.Network) { n.Nodes, n.Devices = nil, nil },
	} {
		n := changed(change)
		if network.Check(n) != api.OK {
			t.Fatalf("%d is not valid", i)
		}
		if modeltext.Same(n, feeder()) || modeltext.Same(feeder(), n) {
			t.Errorf("%d is not the same", i)
		}
		if !modeltext.Same(n, changed(change)) {
			t.Errorf("%d is the same as itself", i)
		}
	}
}

// R8: of networks that are not valid, nothing is reported.
func TestSameOfNetworksThatAreNotValid(t *testing.T) {
	tooMany := greatest()
	tooMany.Nodes = append(tooMany.Nodes, api.Node{Name: "More"})
	for i, n := range []api.Network{
		tooMany,
		changed(func(n *api.Network) { n.Nodes[0].Name = "" }),
		changed(func(n *api.Network) { n.Nodes[1].Name = "A" }),
		changed(func(n *api.Network) { n.Devices[2].Kind = 7 }),
		changed(func(n *api.Network) { n.Devices[5].B = 0 }),
		changed(func(n *api.Network) { n.Devices[5].Company = 8 }),
		{Devices: []api.Device{{Name: "E", Kind: api.KindEarth, A: 0, B: -1}}},
	} {
		if modeltext.Same(n, n) || modeltext.Same(n, feeder()) || modeltext.Same(feeder(), n) || modeltext.Same(api.Network{}, n) {
			t.Errorf("%d is not valid", i)
		}
	}
}

// R1 and R2: nothing is changed, kept or shared, and nothing panics.

func TestNothingIsChangedOrShared(t *testing.T) {
	n, other := feeder(), feeder()
	for range 2 {
		wantPrint(t, n, feederText)
		if !modeltext.Same(n, other) {
			t.Error("the feeders")
		}
		if !reflect.DeepEqual(n, feeder()) || !reflect.DeepEqual(other, feeder()) {
			t.Error("an argument was changed")
		}
		first, _, _ := modeltext.Parse(feederText)
		second, _, _ := modeltext.Parse(feederText)
		first.Nodes[0].Name, first.Devices[0].Name = "X", "Y"
		if !modeltext.Same(second, feeder()) {
			t.Error("networks share memory")
		}
	}
}

// TestNothingPanics gives damaged texts and networks to every function.
func TestNothingPanics(t *testing.T) {
	r := rand.New(rand.NewSource(444))
	for range 20000 {
		text := []byte(feederText)
		for range 1 + r.Intn(3) {
			at := r.Intn(len(text))
			switch r.Intn(3) {
			case 0:
				text[at] = byte(r.Intn(256))
			case 1:
				text = slices.Delete(text, at, at+1)
			case 2:
				text = text[:len(text)-at/2]
			}
		}
		n, line, e := modeltext.Parse(string(text))
		if e != api.OK && (line < 0 || line > 11 || len(n.Nodes) != 0 || len(n.Devices) != 0) {
			t.Fatalf("%q: %v %d %v", text, n, line, e)
		}
		if e == api.OK && (line != 0 || network.Check(n) != api.OK) {
			t.Fatalf("%q: %v %d", text, n, line)
		}
		n = feeder()
		d := &n.Devices[r.Intn(len(n.Devices))]
		*[]*int{&d.Kind, &d.A, &d.B, &d.Company}[r.Intn(4)] = []int{math.MinInt, -2, -1, 0, 3, 7, math.MaxInt}[r.Intn(7)]
		s, e := modeltext.Print(n)
		if e != network.Check(n) || (s == "") != (e != api.OK) || modeltext.Same(n, n) != (e == api.OK) {
			t.Fatalf("%v: %q %v", n, s, e)
		}
	}
}
