package xfer_test

// The examples of chapter 11.

import (
	"testing"

	"reach/api"
	"reach/space"
	"reach/xfer"
)

// exampleNet: the network E.
func exampleNet() api.Net {
	return api.Net{
		Bits: 2,
		Ports: []api.Port{
			{Name: "R.a", In: true, To: -1}, {Name: "R.b", In: true, To: -1}, {Name: "R.c", To: -1}, {Name: "R.d", To: -1},
		},
		Tables: [][]api.Entry{{
			{Ins: []int{0, 1}, Cubes: []string{"1x"}, Write: "x0", Outs: []int{2}}, {Ins: []int{0}, Cubes: []string{"xx"}, Write: "xx", Outs: []int{2, 3}},
		}},
		Guards: [][]api.Guard{nil, nil, nil, {{Permit: true, Cubes: []string{"0x"}}}},
	}
}

// made: the transfer functions of a network that has some.
func made(t *testing.T, n api.Net) *xfer.Transfer {
	t.Helper()
	f, errno := xfer.New(n)
	if errno != api.OK || f == nil {
		t.Fatalf("P11.1: New(%.3000v): %v, %d", n, f, errno)
	}
	return f
}

// read: a space that must be one.
func read(t *testing.T, bits int, text string) space.Space {
	t.Helper()
	s, errno := space.Parse(bits, text)
	if errno != api.OK {
		t.Fatalf("Parse(%d, %.100q): %d", bits, text, errno)
	}
	return s
}

// hits, parts, gone, forward, inverse: what a call answers, as a text.
func hits(f *xfer.Transfer, port int) string {
	l, errno := f.Hits(port)
	return outcome(partsText(l), "", errno)
}

func parts(f *xfer.Transfer, port int) string {
	l, errno := f.Parts(port)
	return outcome(partsText(l), "", errno)
}

func gone(f *xfer.Transfer, port int) string {
	s, errno := f.Gone(port)
	if errno == api.OK && s.Bits() == 0 {
		return "the zero space"
	}
	if errno != api.OK && s.Bits() != 0 {
		return "W3: a space of some bits beside an error"
	}
	return outcome(s.Text(), "none", errno)
}

func forward(f *xfer.Transfer, port int, s space.Space) string {
	l, errno := f.Forward(port, s)
	return outcome(imagesText(l), "", errno)
}

func inverse(f *xfer.Transfer, out int, s space.Space) string {
	l, errno := f.Inverse(out, s)
	return outcome(imagesText(l), "", errno)
}

const (
	errWidth  = "error 11"
	errPort   = "error 110"
	errBudget = "error 3"
)

func checkCalls(t *testing.T, calls [][3]string) {
	t.Helper()
	for _, c := range calls {
		if c[1] != c[2] {
			t.Errorf("%s: %q; want %q", c[0], c[1], c[2])
		}
	}
}

func TestExamples(t *testing.T) {
	checkIsNet(t, exampleNet())
	f := made(t, exampleNet())
	checkCalls(t, [][3]string{
		{"P11.2: Hits(0)", hits(f, 0), "0 0 -1 -1 x0 1x; 0 1 -1 -1 xx xx-1x"},
		{"P11.2: Hits(-1)", hits(f, -1), errPort},
		{"P11.3: Parts(0)", parts(f, 0), "0 0 2 -1 x0 1x; 0 1 2 -1 xx xx-1x; 0 1 3 -1 xx 0x"},
		{"P11.3: Parts(1)", parts(f, 1), "1 0 2 -1 x0 1x"},
		{"P11.3: Parts(2)", parts(f, 2), errPort},
		{"P11.4: Gone(0)", gone(f, 0), "none"},
		{"P11.4: Gone(1)", gone(f, 1), "xx-1x"},
		{"P11.5: Forward(0, xx)", forward(f, 0, read(t, 2, "xx")), "0 0 2 10; 0 1 2 0x; 0 1 3 0x"},
		{"P11.5: Forward(0, 1x-11)", forward(f, 0, read(t, 2, "1x-11")), "0 0 2 10"},
		{"P11.6: Inverse(2, x0)", inverse(f, 2, read(t, 2, "x0")), "0 0 2 1x; 0 1 2 x0-10; 1 0 2 1x"},
		{"P11.6: Inverse(3, 1x)", inverse(f, 3, read(t, 2, "1x")), ""},
		{"P11.6: Inverse(3, 1xx)", inverse(f, 3, read(t, 3, "1xx")), errWidth},
	})
	n := exampleNet()
	n.Tables[0][0].Outs = nil
	f = made(t, n)
	checkCalls(t, [][3]string{{"P11.4: Gone(0), entry 0 sends nowhere", gone(f, 0), "1x"}})
}
