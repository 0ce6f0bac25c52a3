package trail

import "strings"

// instruction is a place of a machine. A thread goes from here all ways at once; where there is none it waits for a name, and goes on at the next instruction, if the name is taken.
type instruction struct {
	takes func(name string) bool
	ways  []int
}

// machine is what a pattern is made into.
type machine []instruction

// machineOf is the machine of a pattern. Its last instruction is where a thread comes with a whole list; it takes no more.
func machineOf(tree node) machine {
	var m machine
	m.add(tree)
	m.put(takesNone)
	return m
}

// put lays one instruction behind the others, and answers its place.
func (m *machine) put(takes func(name string) bool) int {
	*m = append(*m, instruction{takes: takes})
	return len(*m) - 1
}

// lead adds a way from an instruction on.
func (m machine) lead(from, to int) {
	m[from].ways = append(m[from].ways, to)
}

func (m *machine) add(n node) {
	switch n.kind {
	case leaf:
		m.put(takerOf(n.sign))
	case sequence:
		for _, p := range n.parts {
			m.add(p)
		}
	case choice:
		m.addChoice(n.parts)
	case suffix:
		m.addSuffix(n.sign, n.parts[0])
	}
}

func (m *machine) addChoice(parts []node) {
	fork := m.put(takesNone)
	var ends []int
	for _, p := range parts {
		m.lead(fork, len(*m))
		m.add(p)
		ends = append(ends, m.put(takesNone))
	}
	for _, end := range ends {
		m.lead(end, len(*m))
	}
}

func (m *machine) addSuffix(sign string, part node) {
	ahead := m.put(takesNone)
	first := len(*m)
	m.add(part)
	last := m.put(takesNone)
	behind := len(*m)
	m.lead(ahead, first)
	m.lead(last, behind)
	if sign != once {
		m.lead(ahead, behind)
	}
	if sign != maybe {
		m.lead(last, first)
	}
}

// takerOf tells whether a leaf means a name.
func takerOf(sign string) func(name string) bool {
	wanted, denied := strings.CutPrefix(sign, denial)
	means := meaningOf(wanted)
	if denied {
		return func(name string) bool { return !means(name) }
	}
	return means
}

func meaningOf(sign string) func(name string) bool {
	if sign == anyName {
		return func(string) bool { return true }
	}
	if strings.Contains(sign, dot) {
		return func(name string) bool { return name == sign }
	}
	box := sign + dot
	return func(name string) bool { return strings.HasPrefix(name, box) }
}

func takesNone(string) bool { return false }

// threads are all threads of a machine at once.
type threads struct {
	machine       machine
	marks         []bool // by instruction: whether a thread came there behind the last name
	waiting, left []int  // where threads wait for a name, and where they waited for the one ahead of it
	open          []int  // ways that the thread which is run has still to go
}

// begin has the threads of a machine as they are ahead of the first name.
func begin(m machine) *threads {
	t := &threads{machine: m, marks: make([]bool, len(m))}
	t.run(0)
	return t
}

// step takes all threads behind one more name.
func (t *threads) step(name string) {
	t.waiting, t.left = t.left[:0], t.waiting
	clear(t.marks)
	for _, at := range t.left {
		if t.machine[at].takes(name) {
			t.run(at + 1)
		}
	}
}

// run takes one thread up to all instructions at which it waits. From a place where a thread has been nothing new is to be found: so circles end, too.
func (t *threads) run(at int) {
	var ways []int

follow:
	if t.marks[at] {
		goto back
	}
	t.marks[at] = true
	ways = t.machine[at].ways
	if len(ways) == 0 {
		t.waiting = append(t.waiting, at)
		goto back
	}
	t.open = append(t.open, ways[1:]...)
	at = ways[0]
	goto follow

back:
	if len(t.open) == 0 {
		return
	}
	at = t.open[len(t.open)-1]
	t.open = t.open[:len(t.open)-1]
	goto follow
}

// haveEnded tells whether one of the threads is behind the whole pattern.
func (t *threads) haveEnded() bool { return t.marks[len(t.marks)-1] }
