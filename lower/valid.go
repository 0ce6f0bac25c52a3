package lower

import (
	"slices"
	"strings"

	"reach/api"
	"reach/scan"
)

// isNet looks at the counts ahead of all else: they bound the work.
func isNet(n api.Net) bool {
	if n.Bits < 1 || n.Bits > api.MaxBits || len(n.Tables) > api.MaxBoxes || len(n.Ports) > api.MaxPorts || len(n.Guards) != len(n.Ports) {
		return false
	}
	if total(n.Guards) > api.MaxLines || total(n.Tables) > api.MaxEntries {
		return false
	}
	return arePorts(n) && areGuards(n) && areTables(n)
}

func total[T any](lists [][]T) int {
	sum := 0
	for _, l := range lists {
		sum += len(l)
	}
	return sum
}

func arePorts(n api.Net) bool {
	places := map[string]int{}
	for at, p := range n.Ports {
		if !isPort(n, p) {
			return false
		}
		places[p.Name] = at
	}
	return len(places) == len(n.Ports)
}

func isPort(n api.Net, p api.Port) bool {
	if !isPortName(p.Name) || p.Box < 0 || p.Box >= len(n.Tables) {
		return false
	}
	return p.To == -1 || !p.In && isNumber(n, p.To) && n.Ports[p.To].In
}

// isPortName holds the token against the text, since the scanner leaves out what stands around it.
func isPortName(text string) bool {
	tokens, errno, _, _ := scan.Scan(text)
	return errno == api.OK && len(tokens) > 0 && tokens[0].Kind == api.TokPort && tokens[0].Text == text
}

func isNumber(n api.Net, port int) bool { return port >= 0 && port < len(n.Ports) }

func areGuards(n api.Net) bool {
	for _, lines := range n.Guards {
		sum := 0
		for _, l := range lines {
			if !areCubes(n.Bits, l.Cubes) {
				return false
			}
			sum += len(l.Cubes)
		}
		if sum > api.MaxTable {
			return false
		}
	}
	return true
}

func areTables(n api.Net) bool {
	for box, entries := range n.Tables {
		sum := 0
		for _, e := range entries {
			if !isEntry(n, box, e) {
				return false
			}
			sum += len(e.Cubes)
		}
		if sum > api.MaxTable {
			return false
		}
	}
	return true
}

func isEntry(n api.Net, box int, e api.Entry) bool {
	return len(e.Name) <= api.MaxString && areIns(n, box, e.Ins) && areCubes(n.Bits, e.Cubes) && isCube(n.Bits, e.Write) && areOuts(n, box, e.Outs)
}

func areCubes(bits int, cubes []string) bool {
	if len(cubes) > api.MaxMatch {
		return false
	}
	return !slices.ContainsFunc(cubes, func(c string) bool { return !isCube(bits, c) })
}

// isCube makes no cube of the text: every call of the layers above asks Valid first, and a network may have thousands of them.
func isCube(bits int, text string) bool {
	return len(text) == bits && strings.Trim(text, "01x") == ""
}

func areIns(n api.Net, box int, ins []int) bool {
	last := -1
	for _, p := range ins {
		if p <= last || !isOf(n, box, p, true) {
			return false
		}
		last = p
	}
	return true
}

func areOuts(n api.Net, box int, outs []int) bool {
	if len(outs) > api.MaxOuts {
		return false
	}
	for at, p := range outs {
		if !isOf(n, box, p, false) || slices.Contains(outs[:at], p) {
			return false
		}
	}
	return true
}

// isOf tells whether a number is that of an in-port, or an out-port, of a box.
func isOf(n api.Net, box, port int, in bool) bool {
	return isNumber(n, port) && n.Ports[port].Box == box && n.Ports[port].In == in
}
