package lower_test

import (
	"fmt"
	"reflect"
	"slices"
	"strings"
	"testing"

	"reach/api"
	"reach/lower"
)

// plainNet: two boxes whose ports do not stand together.
func plainNet() api.Net {
	return api.Net{
		Bits: 3,
		Ports: []api.Port{
			{Name: "A.a", Box: 0, In: true, To: -1}, {Name: "B.a", Box: 1, In: true, To: -1}, {Name: "A.b", Box: 0, In: true, To: -1},
			{Name: "B.o", Box: 1, To: 0}, {Name: "A.o", Box: 0, To: 1}, {Name: "A.p", Box: 0, To: -1}, {Name: "A.q", Box: 0, To: 2},
			{Name: "A.r", Box: 0, To: 2}, {Name: "A.s", Box: 0, To: -1},
		},
		Tables: [][]api.Entry{
			{{Name: "e", Ins: []int{0, 2}, Cubes: []string{"01x", "xxx"}, Write: "x1x", Outs: []int{7, 4, 5, 6}}, {Write: "000"}},
			{{Name: "f", Ins: []int{1}, Cubes: []string{"111"}, Write: "xxx", Outs: []int{3}}},
		},
		Guards: [][]api.Guard{{{Permit: true, Cubes: []string{"0xx"}}, {}}, nil, nil, {{Cubes: []string{"xx1"}}}, nil, nil, nil, nil, nil},
	}
}

func repeated(what string, count int) []string { return slices.Repeat([]string{what}, count) }

// Each thing that P9.5 asks for, alone: at its edge, and just beyond it.
func TestEachFaultAlone(t *testing.T) {
	checkValid(t, "the plain network", plainNet(), api.OK)
	for _, x := range []struct {
		of    string
		do    func(n *api.Net)
		errno api.Errno
	}{
		{"no guards", func(n *api.Net) { n.Guards = nil }, api.ErrNet},
		{"a guard more", func(n *api.Net) { n.Guards = append(n.Guards, nil) }, api.ErrNet},
		{"a guard less", func(n *api.Net) { n.Guards = n.Guards[1:] }, api.ErrNet},
		{"a table more", func(n *api.Net) { n.Tables = append(n.Tables, nil) }, api.OK},
		{"no table", func(n *api.Net) { n.Tables = nil }, api.ErrNet},
		{"a table less", func(n *api.Net) { n.Tables = n.Tables[:1] }, api.ErrNet},
		{"more bits", func(n *api.Net) { n.Bits = 4 }, api.ErrNet},
		{"a name twice", func(n *api.Net) { n.Ports[8].Name = "A.a" }, api.ErrNet},
		{"a name twice, of two boxes", func(n *api.Net) { n.Ports[1].Name = "A.a" }, api.ErrNet},
		{"a name of another box", func(n *api.Net) { n.Ports[0].Name = "B.zz" }, api.OK},
		{"a name in other letters", func(n *api.Net) { n.Ports[0].Name = "a.A" }, api.OK},
		{"a box below 0", func(n *api.Net) { n.Ports[8].Box = -1 }, api.ErrNet},
		{"a box too great", func(n *api.Net) { n.Ports[8].Box = 2 }, api.ErrNet},
		{"another box", func(n *api.Net) { n.Ports[8].Box = 1 }, api.OK},
		{"to an out-port", func(n *api.Net) { n.Ports[8].To = 4 }, api.ErrNet},
		{"to itself", func(n *api.Net) { n.Ports[8].To = 8 }, api.ErrNet},
		{"to no port", func(n *api.Net) { n.Ports[8].To = 9 }, api.ErrNet},
		{"to a number below -1", func(n *api.Net) { n.Ports[8].To = -2 }, api.ErrNet},
		{"to an in-port of its box", func(n *api.Net) { n.Ports[8].To = 0 }, api.OK},
		{"from an in-port", func(n *api.Net) { n.Ports[0].To = 1 }, api.ErrNet},
		{"a long name of an entry", func(n *api.Net) { n.Tables[1][0].Name = strings.Repeat("\n", 257) }, api.ErrNet},
		{"as long as may be", func(n *api.Net) { n.Tables[1][0].Name = strings.Repeat("\n", 256) }, api.OK},
		{"ins of another box", func(n *api.Net) { n.Tables[1][0].Ins[0] = 0 }, api.ErrNet},
		{"ins that fall", func(n *api.Net) { n.Tables[0][0].Ins = []int{2, 0} }, api.ErrNet},
		{"ins twice", func(n *api.Net) { n.Tables[0][0].Ins = []int{2, 2} }, api.ErrNet},
		{"an in that is an out-port", func(n *api.Net) { n.Tables[0][0].Ins = []int{0, 4} }, api.ErrNet},
		{"an in that is no port", func(n *api.Net) { n.Tables[0][0].Ins = []int{0, 9} }, api.ErrNet},
		{"an in below 0", func(n *api.Net) { n.Tables[0][0].Ins = []int{-1, 0} }, api.ErrNet},
		{"no ins", func(n *api.Net) { n.Tables[0][0].Ins = nil }, api.OK},
		{"outs of another box", func(n *api.Net) { n.Tables[1][0].Outs[0] = 4 }, api.ErrNet},
		{"an out that is an in-port", func(n *api.Net) { n.Tables[0][0].Outs[3] = 2 }, api.ErrNet},
		{"an out that is no port", func(n *api.Net) { n.Tables[0][0].Outs[3] = 9 }, api.ErrNet},
		{"an out below 0", func(n *api.Net) { n.Tables[0][0].Outs[3] = -1 }, api.ErrNet},
		{"an out twice", func(n *api.Net) { n.Tables[0][0].Outs[3] = 7 }, api.ErrNet},
		{"five outs", func(n *api.Net) { n.Tables[0][0].Outs = []int{4, 5, 6, 7, 8} }, api.ErrNet},
		{"no outs", func(n *api.Net) { n.Tables[0][0].Outs = nil }, api.OK},
		{"no word", func(n *api.Net) { n.Tables[1][0].Write = "" }, api.ErrNet},
		{"a wide word", func(n *api.Net) { n.Tables[1][0].Write = "xxxx" }, api.ErrNet},
		{"a word with another byte", func(n *api.Net) { n.Tables[1][0].Write = "x2x" }, api.ErrNet},
		{"no cubes", func(n *api.Net) { n.Tables[1][0].Cubes = nil }, api.OK},
		{"a cube twice", func(n *api.Net) { n.Tables[1][0].Cubes = []string{"111", "111"} }, api.OK},
		{"an empty cube", func(n *api.Net) { n.Tables[1][0].Cubes = []string{""} }, api.ErrNet},
		{"a narrow cube at the end", func(n *api.Net) { n.Tables[1][0].Cubes = []string{"xxx", "xx"} }, api.ErrNet},
		{"a wide cube", func(n *api.Net) { n.Tables[1][0].Cubes = []string{"xxxx", "xxx"} }, api.ErrNet},
		{"a cube with another byte", func(n *api.Net) { n.Tables[1][0].Cubes = []string{"xX0"} }, api.ErrNet},
		{"64 cubes", func(n *api.Net) { n.Tables[1][0].Cubes = repeated("xxx", 64) }, api.OK},
		{"65 cubes", func(n *api.Net) { n.Tables[1][0].Cubes = repeated("xxx", 65) }, api.ErrNet},
		{"a line's cube with another byte", func(n *api.Net) { n.Guards[3][0].Cubes = []string{"xx "} }, api.ErrNet},
		{"a line's narrow cube", func(n *api.Net) { n.Guards[3][0].Cubes = []string{"xxx", "xx"} }, api.ErrNet},
		{"a line's wide cube", func(n *api.Net) { n.Guards[3][0].Cubes = []string{"xxxx"} }, api.ErrNet},
		{"a line's 64 cubes", func(n *api.Net) { n.Guards[3][0].Cubes = repeated("xxx", 64) }, api.OK},
		{"a line's 65 cubes", func(n *api.Net) { n.Guards[3][0].Cubes = repeated("xxx", 65) }, api.ErrNet},
		{"61 lines more", func(n *api.Net) { n.Guards[8] = make([]api.Guard, 61) }, api.OK},
		{"62 lines more", func(n *api.Net) { n.Guards[8] = make([]api.Guard, 62) }, api.ErrNet},
		{"253 entries more", func(n *api.Net) { n.Tables = append(n.Tables, entries(253, 0)) }, api.OK},
		{"254 entries more", func(n *api.Net) { n.Tables = append(n.Tables, entries(254, 0)) }, api.ErrNet},
		{"512 cubes of a table", func(n *api.Net) { n.Tables = append(n.Tables, entries(8, 64), entries(16, 32)) }, api.OK},
		{"513 cubes of a table", func(n *api.Net) { n.Tables = append(n.Tables, append(entries(8, 64), entries(1, 1)...)) }, api.ErrNet},
		{"512 cubes of a guard", func(n *api.Net) { n.Guards[7], n.Guards[8] = lines(8, 64), lines(8, 64) }, api.OK},
		{"513 cubes of a guard", func(n *api.Net) { n.Guards[8] = append(lines(1, 1), lines(8, 64)...) }, api.ErrNet},
	} {
		n := plainNet()
		x.do(&n)
		checkValid(t, x.of, n, x.errno)
		if told := tellValid(n); told != x.errno {
			t.Errorf("the second telling of %s: %d, want %d", x.of, told, x.errno)
		}
	}
}

func entries(count, cubes int) []api.Entry {
	var list []api.Entry
	for range count {
		list = append(list, api.Entry{Cubes: repeated("x01", cubes), Write: "xxx"})
	}
	return list
}

func lines(count, cubes int) []api.Guard {
	var list []api.Guard
	for range count {
		list = append(list, api.Guard{Cubes: repeated("x01", cubes)})
	}
	return list
}

// The bounds of the whole: bits, tables and ports.
func TestBoundsOfNets(t *testing.T) {
	for bits := -2; bits <= 260; bits++ {
		n := api.Net{Bits: bits, Tables: [][]api.Entry{{{Cubes: repeated(strings.Repeat("0", max(bits, 0)), 2), Write: strings.Repeat("x", max(bits, 0))}}}}
		checkValid(t, fmt.Sprint(bits, " bits"), n, tellValid(n))
	}
	for _, bits := range []int{1 << 62, -1 << 63, 1<<63 - 1, 1 << 32, 1<<32 + 1} {
		checkValid(t, "a number far off", api.Net{Bits: bits}, api.ErrNet)
	}
	for tables := range 20 {
		for _, ports := range []int{0, 1, 47, 48, 49} {
			n := api.Net{Bits: 1, Tables: make([][]api.Entry, tables), Guards: make([][]api.Guard, ports)}
			for at := range ports {
				n.Ports = append(n.Ports, api.Port{Name: fmt.Sprint("P.p", at), Box: at % max(tables, 1), In: true, To: -1})
			}
			checkValid(t, fmt.Sprint(tables, " tables, ", ports, " ports"), n, tellValid(n))
		}
	}
}

// A port's name is wholly one token of two names; a reserved word may stand in it.
func TestNamesOfPorts(t *testing.T) {
	long := strings.Repeat("n", 24)
	for name, want := range map[string]api.Errno{
		"R1.a": api.OK, "in.out": api.OK, "any.none": api.OK, "_._": api.OK, "a.a": api.OK, long + "." + long: api.OK, "X9.Y_9": api.OK,
		"": api.ErrNet, "R1": api.ErrNet, ".": api.ErrNet, "R1.": api.ErrNet, ".a": api.ErrNet, "R1..a": api.ErrNet, "R1.a.b": api.ErrNet,
		"R1.9": api.ErrNet, "9.a": api.ErrNet, "1.2": api.ErrNet, "1.2.3.4": api.ErrNet, "R1 .a": api.ErrNet, "R1. a": api.ErrNet, " R1.a": api.ErrNet, "R1.a ": api.ErrNet,
		"R1.a\n": api.ErrNet, "\nR1.a": api.ErrNet, "R1.a\r": api.ErrNet, "\tR1.a": api.ErrNet, "R1.a#": api.ErrNet, "R1.a b": api.ErrNet, "R1.a R1.a": api.ErrNet, "R1.a,": api.ErrNet, "#\nR1.a": api.ErrNet,
		"\"R1.a\"": api.ErrNet, "%01x": api.ErrNet, "R1.é": api.ErrNet, "R1.a\xff": api.ErrNet, "R1.a\x00": api.ErrNet, "n" + long + ".a": api.ErrNet, "a.n" + long: api.ErrNet, "R1->a": api.ErrNet,
		"a." + strings.Repeat("n", 1<<20): api.ErrNet, strings.Repeat("a.b ", 5000): api.ErrNet,
	} {
		n := plainNet()
		n.Ports[8].Name = name
		checkValid(t, fmt.Sprintf("the name %.40q", name), n, want)
	}
	for b := range 256 {
		for _, name := range []string{"R" + string([]byte{byte(b)}) + ".a", "R1.a" + string([]byte{byte(b)}), string([]byte{byte(b)}) + ".a", "R1" + string([]byte{byte(b)}) + "a"} {
			n := plainNet()
			n.Ports[8].Name = name
			checkValid(t, fmt.Sprintf("the name %q", name), n, tellValid(n))
		}
	}
}

// All bytes in a cube and in a word.
func TestBytesOfCubes(t *testing.T) {
	for b := range 256 {
		text := "0" + string([]byte{byte(b)}) + "x"
		want := api.ErrNet
		if strings.ContainsRune("01x", rune(b)) {
			want = api.OK
		}
		for of, do := range map[string]func(n *api.Net){
			"a cube of an entry": func(n *api.Net) { n.Tables[0][0].Cubes[1] = text },
			"a word":             func(n *api.Net) { n.Tables[0][1].Write = text },
			"a cube of a line":   func(n *api.Net) { n.Guards[3][0].Cubes[0] = text },
		} {
			n := plainNet()
			do(&n)
			checkValid(t, of, n, want)
		}
	}
}

// damaged: the network with one number, text or list changed.
func (s *source) damaged(n api.Net) api.Net {
	n = withSpare(n)
	byPart := map[string][]reflect.Value{}
	var parts []string
	spots(reflect.ValueOf(&n).Elem(), "", func(spot reflect.Value, part string) {
		if byPart[part] == nil {
			parts = append(parts, part)
		}
		byPart[part] = append(byPart[part], spot)
	})
	of := byPart[parts[s.below(len(parts))]]
	s.change(n, of[s.below(len(of))])
	return n
}

// spots calls look with every leaf and every list of a value, and with the part that it stands in.
func spots(v reflect.Value, part string, look func(spot reflect.Value, part string)) {
	switch v.Kind() {
	case reflect.Struct:
		for n := range v.NumField() {
			spots(v.Field(n), v.Type().Name()+"."+v.Type().Field(n).Name, look)
		}
	case reflect.Slice:
		look(v, part+v.Type().String())
		for n := range v.Len() {
			spots(v.Index(n), part, look)
		}
	default:
		look(v, part+v.Type().String())
	}
}

func (s *source) change(n api.Net, spot reflect.Value) {
	switch spot.Kind() {
	case reflect.String:
		was := spot.String()
		texts := []string{was, was + "x", "x" + was, strings.TrimSuffix(was, was[len(was)/2:]), s.cube(n.Bits), "", "R.a", "R.a ", strings.ToUpper(was)}
		if len(n.Ports) > 0 {
			texts = append(texts, n.Ports[s.below(len(n.Ports))].Name)
		}
		spot.SetString(s.oneOf(texts...))
	case reflect.Bool:
		spot.SetBool(!spot.Bool())
	case reflect.Int:
		was := int(spot.Int())
		spot.SetInt(int64([]int{was - 1, was + 1, -1, 0, 1, s.below(49), len(n.Ports), len(n.Ports) - 1, len(n.Tables), -1 << 63, 1<<63 - 1}[s.below(11)]))
	case reflect.Slice:
		s.changeList(spot)
	}
}

// changeList: an element is doubled, or all are, or one is taken away, or added without anything in it; or two change places.
func (s *source) changeList(list reflect.Value) {
	n := list.Len()
	if n == 0 {
		list.Set(reflect.MakeSlice(list.Type(), 1, 1))
		return
	}
	at, to := s.below(n), s.below(n)
	switch s.below(6) {
	case 0:
		list.Set(reflect.Append(list, list.Index(at)))
	case 1:
		list.Set(reflect.AppendSlice(list.Slice(0, at), list.Slice(at+1, n)))
	case 2:
		list.Set(reflect.Append(list, reflect.New(list.Type().Elem()).Elem()))
	case 3:
		reflect.Swapper(list.Interface())(at, to)
	default:
		for range 1 + s.below(8) {
			list.Set(reflect.AppendSlice(list, list))
		}
	}
}

func TestMixedNets(t *testing.T) {
	s := source(95)
	codes := map[string]int{}
	for n := range 5000 {
		net := s.net()
		if n%4 > 0 {
			net = s.damaged(net)
		}
		checkValid(t, "a mixed network", net, tellValid(net))
		if n%4 == 0 && tellValid(net) != api.OK {
			t.Fatalf("no valid network: %v, %v", tellFaults(net), net)
		}
		faults := tellFaults(net)
		slices.Sort(faults)
		codes[strings.Join(slices.Compact(faults), ", ")]++
	}
	for _, alone := range []string{"", "guards", "entries", "a name that is none", "a name twice", "a box that is none", "a way that is none", "no cube of a line", "no cube of an entry", "no word", "a long name", "cubes of a line", "cubes of an entry", "ins in no order", "ins that are none", "an out twice", "outs that are none"} {
		if codes[alone] < 3 {
			t.Errorf("few networks with the fault %q alone: %v", alone, codes)
		}
	}
}

// Lists and texts far beyond all limits.
func TestGreatNets(t *testing.T) {
	const many = 1 << 20
	for of, do := range map[string]func(n *api.Net){
		"ports":   func(n *api.Net) { n.Ports, n.Guards = make([]api.Port, many), make([][]api.Guard, many) },
		"guards":  func(n *api.Net) { n.Guards = make([][]api.Guard, many) },
		"tables":  func(n *api.Net) { n.Tables = make([][]api.Entry, many) },
		"lines":   func(n *api.Net) { n.Guards[0] = make([]api.Guard, many) },
		"entries": func(n *api.Net) { n.Tables[0] = make([]api.Entry, many) },
		"cubes":   func(n *api.Net) { n.Tables[0][0].Cubes = repeated("xxx", many) },
		"a cube":  func(n *api.Net) { n.Tables[0][0].Cubes[0] = strings.Repeat("x", many) },
		"a word":  func(n *api.Net) { n.Tables[0][0].Write = strings.Repeat("x", many) },
		"ins":     func(n *api.Net) { n.Tables[0][0].Ins = make([]int, many) },
		"outs":    func(n *api.Net) { n.Tables[0][0].Outs = make([]int, many) },
		"a name":  func(n *api.Net) { n.Tables[0][0].Name = strings.Repeat("n", many) },
		"a line":  func(n *api.Net) { n.Guards[0][0].Cubes = repeated("xxx", many) },
		"a token": func(n *api.Net) { n.Ports[0].Name = strings.Repeat("A.a ", many) },
	} {
		n := plainNet()
		do(&n)
		if errno := lower.Valid(n); errno != api.ErrNet {
			t.Errorf("P9.5: too many: %s: %d", of, errno)
		}
	}
}
