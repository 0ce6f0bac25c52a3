package lower_test

// The examples of chapter 9.

import (
	"reflect"
	"strings"
	"testing"

	"reach/api"
	"reach/conf"
	"reach/lower"
)

const two = `header dst:8 proto:4
routing dst
box R1
  in a b
  out c d
  guard a permit proto != 0
  rule 7 from b match any drop
  rule 90 from b a match proto = 1..2 set proto = 9 to d, c
  own 64/2 to d
  route 0/0 to c
box R2
  in a
  out b
link R1.c -> R2.a
`

func parsed(t *testing.T, text string) api.Config {
	t.Helper()
	c, errno, line := conf.Parse(text)
	if errno != api.OK {
		t.Fatalf("%.300q is no network: %d in line %d", text, errno, line)
	}
	return c
}

// plainly: the value with nil for every empty list, so that W5 makes no difference.
func plainly[T any](value T) T {
	var walk func(v reflect.Value)
	walk = func(v reflect.Value) {
		switch {
		case v.Kind() == reflect.Struct:
			for n := range v.NumField() {
				walk(v.Field(n))
			}
		case v.Kind() == reflect.Slice && v.Len() == 0:
			v.SetZero()
		case v.Kind() == reflect.Slice:
			for n := range v.Len() {
				walk(v.Index(n))
			}
		}
	}
	value = withSpare(value)
	walk(reflect.ValueOf(&value).Elem())
	return value
}

func equal[T any](a, b T) bool { return reflect.DeepEqual(plainly(a), plainly(b)) }

func checkLower(t *testing.T, what string, c api.Config, want api.Net, wantErrno api.Errno) {
	t.Helper()
	n, errno := lower.Lower(c)
	if errno != wantErrno || !equal(n, want) {
		t.Fatalf("P9.1: Lower of %.2000s: %.2000v, %d; want %.2000v, %d", what, n, errno, want, wantErrno)
	}
	if errno != api.OK && !reflect.DeepEqual(n, api.Net{}) {
		t.Fatalf("W3: Lower of %.2000s: %v beside %d", what, n, errno)
	}
}

func checkTable(t *testing.T, what string, c api.Config, box int, want []api.Entry, wantErrno api.Errno) {
	t.Helper()
	table, errno := lower.Table(c, box)
	if errno != wantErrno || !equal(table, want) || errno != api.OK && table != nil {
		t.Fatalf("P9.2: Table %d of %.2000s: %.2000v, %d; want %.2000v, %d", box, what, table, errno, want, wantErrno)
	}
}

func checkGuard(t *testing.T, what string, c api.Config, port int, want []api.Guard, wantErrno api.Errno) {
	t.Helper()
	guard, errno := lower.Guard(c, port)
	if errno != wantErrno || !equal(guard, want) || errno != api.OK && guard != nil {
		t.Fatalf("P9.3: Guard %d of %.2000s: %.2000v, %d; want %.2000v, %d", port, what, guard, errno, want, wantErrno)
	}
}

func checkValid(t *testing.T, what string, n api.Net, want api.Errno) {
	t.Helper()
	if errno := lower.Valid(n); errno != want {
		t.Fatalf("P9.5: Valid of %s, %.2000v: %d; want %d (%v)", what, n, errno, want, tellFaults(n))
	}
}

// exampleNet: the numbers of the examples 1 to 3.
func exampleNet() api.Net {
	all := strings.Repeat("x", 12)
	return api.Net{
		Bits: 12,
		Ports: []api.Port{
			{Name: "R1.a", Box: 0, In: true, To: -1}, {Name: "R1.b", Box: 0, In: true, To: -1}, {Name: "R1.c", Box: 0, To: 4},
			{Name: "R1.d", Box: 0, To: -1}, {Name: "R2.a", Box: 1, In: true, To: -1}, {Name: "R2.b", Box: 1, To: -1},
		},
		Tables: [][]api.Entry{{
			{Name: "R1 rule 90", Ins: []int{0, 1}, Cubes: []string{"xxxxxxxx0001", "xxxxxxxx0010"}, Write: "xxxxxxxx1001", Outs: []int{3, 2}},
			{Name: "R1 rule 7", Ins: []int{1}, Cubes: []string{all}, Write: all},
			{Name: "R1 own 0.0.0.64/2", Ins: []int{0, 1}, Cubes: []string{"01xxxxxxxxxx"}, Write: all, Outs: []int{3}},
			{Name: "R1 route 0.0.0.0/0", Ins: []int{0, 1}, Cubes: []string{all}, Write: all, Outs: []int{2}},
		}, nil},
		Guards: [][]api.Guard{{{Permit: true, Cubes: []string{"xxxxxxxx1xxx", "xxxxxxxx01xx", "xxxxxxxx001x", "xxxxxxxx0001"}}}, nil, nil, nil, nil, nil},
	}
}

func TestExamplesOfLower(t *testing.T) {
	want := exampleNet()
	checkLower(t, "the example", parsed(t, two), want, api.OK)
	want.Ports[5].To = 0
	want.Tables[1] = []api.Entry{{Name: "R2 way 0.0.0.64/2", Ins: []int{4}, Cubes: []string{"01xxxxxxxxxx"}, Write: strings.Repeat("x", 12), Outs: []int{5}}}
	checkLower(t, "the example with a way back", parsed(t, two+"link R2.b -> R1.a\n"), want, api.OK)
}

func TestExamplesOfParts(t *testing.T) {
	c, want := parsed(t, two), exampleNet()
	for box := range 2 {
		checkTable(t, "the example", c, box, want.Tables[box], api.OK)
	}
	for port := range 6 {
		checkGuard(t, "the example", c, port, want.Guards[port], api.OK)
	}
	checkTable(t, "the example", c, 2, nil, api.ErrArg)
	checkTable(t, "the example", c, -1, nil, api.ErrArg)
	checkGuard(t, "the example", c, 6, nil, api.ErrArg)
}

func TestExamplesOfValid(t *testing.T) {
	port := api.Port{Name: "R1.a", Box: 0, In: true, To: -1}
	checkValid(t, "nothing", api.Net{}, api.ErrNet)
	checkValid(t, "one bit", api.Net{Bits: 1}, api.OK)
	checkValid(t, "a port and no table", api.Net{Bits: 1, Ports: []api.Port{port}}, api.ErrNet)
	checkValid(t, "a port and no table, a guard", api.Net{Bits: 1, Ports: []api.Port{port}, Guards: [][]api.Guard{nil}}, api.ErrNet)
	checkValid(t, "a port, a table, a guard", api.Net{Bits: 1, Ports: []api.Port{port}, Tables: [][]api.Entry{{}}, Guards: [][]api.Guard{{}}}, api.OK)
	checkValid(t, "the example", exampleNet(), api.OK)
}

func TestExamplesOfBudgets(t *testing.T) {
	head := "header a:32 b:8\nbox B\n"
	c := parsed(t, head+"rule 1 match a != 1 & b != 1 drop")
	checkLower(t, "256 cubes", c, api.Net{}, api.ErrBudget)
	checkTable(t, "256 cubes", c, 0, nil, api.ErrBudget)
	table, errno := lower.Table(parsed(t, head+"rule 1 match b != 1 & b != 2 drop"), 0)
	if errno != api.OK || len(table) != 1 || len(table[0].Cubes) != 8 {
		t.Errorf("P9.2: a rule of 8 cubes: %v, %d", table, errno)
	}
}
