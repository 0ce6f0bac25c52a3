package space_test

import (
	"iter"
	"slices"
	"strings"
	"sync"
	"testing"

	"reach/api"
	"reach/space"
	"reach/tern"
)

// read: a space that must be one.
func read(t *testing.T, bits int, text string) space.Space {
	t.Helper()
	s, e := space.Parse(bits, text)
	if e != api.OK {
		t.Fatalf("Parse(%d, %.60q) = %d", bits, text, e)
	}
	return s
}

// same: whether the answer of a call is what is told of it.
func same(t *testing.T, call string, s space.Space, e api.Errno, want told, wantE api.Errno) {
	t.Helper()
	if e != wantE || s.Bits() != want.bits || s.Text() != want.text() || s.Size() != want.size() {
		t.Fatalf("%s = %q of %d bits and size %d, %d; want %q of %d bits and size %d, %d", call, s.Text(), s.Bits(), s.Size(), e, want.text(), want.bits, want.size(), wantE)
	}
}

// refused: with an error the answer is the zero Space.
func refused(t *testing.T, call string, s space.Space, e, want api.Errno) {
	t.Helper()
	same(t, call, s, e, told{}, want)
}

func texts(list []tern.Cube) string {
	var out []string
	for _, c := range list {
		out = append(out, c.Text())
	}
	return strings.Join(out, " ")
}

// x: a text of so many x.
func x(bits int) string { return strings.Repeat("x", bits) }

// number: the header of a number, of so many bits.
func number(n, bits int) string {
	b := make([]byte, bits)
	for i := range b {
		b[i] = byte('0' + n>>(bits-1-i)&1)
	}
	return string(b)
}

// numbers: the headers of the numbers from .. to-1, each with the ending behind it, with sign between each two.
func numbers(from, to, bits int, ending, sign string) string {
	var list []string
	for n := from; n < to; n++ {
		list = append(list, number(n, bits)+ending)
	}
	return strings.Join(list, sign)
}

// kind: what the spaces of a trial are made of.
type kind struct {
	bits, terms, less, tries int
	digits                   string
}

// kinds: small widths, where all meets all, the borders of words, and so many cubes that limits are passed.
func kinds() []kind {
	return []kind{
		{1, 3, 3, 60, "01x"}, {2, 4, 4, 200, "01x"}, {3, 4, 4, 300, "01xx"}, {4, 5, 5, 300, "01xxxx"}, {6, 6, 4, 200, "01xxxx"},
		{64, 4, 4, 20, "01xxxxxxxxxxxxxx" + x(40)}, {65, 4, 4, 20, "01" + x(40)}, {256, 5, 5, 20, "01" + x(90)},
		{10, 20, 5, 25, "01xxxx"}, {12, 100, 0, 25, "01xx"}, {16, 3, 30, 15, "01xxxxxx"},
	}
}

// eachPair calls look with pairs of spaces, and with both as they are told.
func eachPair(t *testing.T, look func(a, b space.Space, m, n told, from *source)) {
	t.Helper()
	from := source(7)
	for _, k := range kinds() {
		for range k.tries {
			ta, tb := from.text(k.bits, k.terms, k.less, k.digits), from.text(k.bits, k.terms, k.less, k.digits)
			m, n := form(k.bits, raw(ta)), form(k.bits, raw(tb))
			a, ea := space.Parse(k.bits, ta)
			b, eb := space.Parse(k.bits, tb)
			if ea == api.OK && eb == api.OK {
				look(a, b, m, n, &from)
			}
		}
	}
}

// P2.1
func TestNone(t *testing.T) {
	for _, bits := range []int{1, 2, 64, 255, 256} {
		same(t, "None", space.None(bits), api.OK, told{bits: bits}, api.OK)
	}
	for _, bits := range []int{0, -1, 257, 1 << 40, -1 << 63} {
		same(t, "None", space.None(bits), api.OK, told{}, api.OK)
	}
}

// P2.2
func TestOf(t *testing.T) {
	from := source(3)
	for _, k := range kinds() {
		for range k.tries {
			term := []string{from.cube(k.bits, k.digits)}
			var less []tern.Cube
			for range from.below(k.less + 1) {
				term = append(term, from.cube(k.bits, k.digits))
				less = append(less, cubeOf(term[len(term)-1]))
			}
			s, e := space.Of(cubeOf(term[0]), less...)
			same(t, "Of "+strings.Join(term, "-"), s, e, form(k.bits, [][]string{term}), api.OK)
		}
	}
}

// P2.2
func TestOfRefuses(t *testing.T) {
	one, two := cubeOf("1"), cubeOf("1x")
	for _, c := range []struct {
		cube tern.Cube
		less []tern.Cube
		want api.Errno
	}{
		{tern.Cube{}, nil, api.ErrWidth},
		{tern.Cube{}, []tern.Cube{{}}, api.ErrWidth},
		{tern.Cube{}, []tern.Cube{one}, api.ErrWidth},
		{one, []tern.Cube{one, {}}, api.ErrWidth},
		{one, []tern.Cube{one, two}, api.ErrWidth},
		{two, []tern.Cube{one}, api.ErrWidth},
		{two, make([]tern.Cube, api.MaxSplit), api.ErrWidth},
		{two, make([]tern.Cube, api.MaxSplit+1), api.ErrLong},
		{tern.Cube{}, make([]tern.Cube, api.MaxSplit+1), api.ErrLong},
	} {
		s, e := space.Of(c.cube, c.less...)
		refused(t, "Of "+c.cube.Text(), s, e, c.want)
	}
}

// P2.2: the size counts behind the form, the length ahead of it.
func TestOfCounts(t *testing.T) {
	var less []tern.Cube
	for n := range api.MaxCubes {
		less = append(less, cubeOf(number(n, 8)))
	}
	s, e := space.Of(tern.All(8), less[1:]...)
	same(t, "Of 127 cubes", s, e, form(8, raw("xxxxxxxx-"+numbers(1, 128, 8, "", "-"))), api.OK)
	s, e = space.Of(tern.All(8), less...)
	refused(t, "Of 128 cubes", s, e, api.ErrBudget)
	s, e = space.Of(cubeOf("0xxxxxx0"), less...)
	same(t, "Of 64 that meet it", s, e, form(8, raw("0xxxxxx0-"+numbers(0, 128, 8, "", "-"))), api.OK)
	most := slices.Repeat(less, api.MaxSplit/len(less))
	most[len(most)-1] = cubeOf("0xxxxxxx")
	s, e = space.Of(tern.All(8), most...)
	same(t, "Of 2048 cubes within one", s, e, form(8, raw("xxxxxxxx-0xxxxxxx")), api.OK)
	s, e = space.Of(cubeOf("1xxxxxxx"), most[:api.MaxSplit-1]...)
	same(t, "Of a cube that they do not meet", s, e, form(8, raw("1xxxxxxx")), api.OK)
}

// P2.3, and the form of terms and spaces.
func TestParseGivesTheForm(t *testing.T) {
	from := source(11)
	for _, k := range kinds() {
		for range k.tries {
			text := from.text(k.bits, k.terms, k.less, k.digits)
			want, wantE := form(k.bits, raw(text)), api.OK
			if len(slices.Concat(raw(text)...)) > api.MaxCubes {
				want, wantE = told{}, api.ErrBudget
			}
			s, e := space.Parse(k.bits, text)
			same(t, "Parse "+text, s, e, want, wantE)
			if e == api.OK {
				again, e := space.Parse(s.Bits(), s.Text())
				same(t, "Parse again "+text, again, e, want, api.OK)
			}
		}
	}
}

// P2.3: all terms of two bits with up to three cubes taken away, alone and in pairs of the shorter ones.
func TestFormOfAllSmallTerms(t *testing.T) {
	cubes := []string{"00", "01", "0x", "10", "11", "1x", "x0", "x1", "xx"}
	var short, all []string
	for _, p := range cubes {
		short = append(short, p)
		for _, a := range cubes {
			short = append(short, p+"-"+a)
			for _, b := range cubes {
				all = append(all, p+"-"+a+"-"+b)
				for _, c := range cubes {
					all = append(all, p+"-"+a+"-"+b+"-"+c)
				}
			}
		}
	}
	all = append(all, short...)
	for _, a := range short {
		for _, b := range short {
			all = append(all, a+"+"+b)
		}
	}
	for _, text := range all {
		same(t, text, read(t, 2, text), api.OK, form(2, raw(text)), api.OK)
	}
}

// P2.3: the errors, and which of several comes first.
func TestParseRefuses(t *testing.T) {
	for _, c := range []struct {
		bits int
		text string
		want api.Errno
	}{
		{0, strings.Repeat("?", api.MaxSpaceText+1), api.ErrLong}, {4, strings.Repeat("?", api.MaxSpaceText+1), api.ErrLong},
		{48, strings.Repeat(x(48)+"+", 673) + x(48), api.ErrLong}, {24, strings.Repeat(x(24)+"-", 1320) + x(24), api.ErrBudget}, {4, strings.Repeat("?", api.MaxSpaceText), api.ErrForm},
		{0, "none", api.ErrArg}, {-1, "none", api.ErrArg}, {257, "none", api.ErrArg}, {257, x(257), api.ErrArg}, {0, "", api.ErrArg}, {1 << 40, "?", api.ErrArg}, {-1 << 63, "0", api.ErrArg},
		{4, "", api.ErrForm}, {4, "10x", api.ErrForm}, {4, "10xxx", api.ErrForm}, {4, "10xx+", api.ErrForm}, {4, "+10xx", api.ErrForm}, {4, "10xx-", api.ErrForm}, {4, "-10xx", api.ErrForm}, {4, "10xx--0xxx", api.ErrForm}, {4, "10xx++0xxx", api.ErrForm}, {4, "10xx+-0xxx", api.ErrForm}, {4, "10xx-0xx", api.ErrForm}, {4, "10xx+0xxxx", api.ErrForm}, {4, "+", api.ErrForm}, {4, "-", api.ErrForm},
		{4, "none+10xx", api.ErrForm}, {4, "10xx+none", api.ErrForm}, {4, "10xx-none", api.ErrForm}, {4, "none-none", api.ErrForm}, {4, "none ", api.ErrForm}, {4, " 10xx", api.ErrForm}, {4, "10xx\n", api.ErrForm}, {4, "NONE", api.ErrForm}, {4, "10XX", api.ErrForm}, {4, "10x2", api.ErrForm}, {4, "10x\x00", api.ErrForm}, {4, "\xff\xff\xff\xff", api.ErrForm}, {256, x(257), api.ErrForm}, {256, x(256) + "-" + x(300), api.ErrForm},
		{1, strings.Repeat("0+", 128) + "1", api.ErrBudget}, {1, strings.Repeat("x-", 128) + "1", api.ErrBudget}, {1, strings.Repeat("0-1+", 64) + "1", api.ErrBudget}, {1, strings.Repeat("0+", 128) + "2", api.ErrForm}, {1, strings.Repeat("0+", 128), api.ErrForm}, {1, "2" + strings.Repeat("+0", 128), api.ErrForm},
	} {
		s, e := space.Parse(c.bits, c.text)
		refused(t, c.text[:min(len(c.text), 40)], s, e, c.want)
	}
}

// P2.3: what is let in.
func TestParseTakes(t *testing.T) {
	for _, c := range []struct {
		bits int
		text string
	}{
		{1, strings.Repeat("0+", 127) + "1"}, {1, strings.Repeat("x-", 127) + "1"}, {7, numbers(0, 128, 7, "", "+")}, {256, x(256) + "-" + numbers(0, 127, 7, x(249), "-")}, {1, "none"}, {256, "none"}, {4, "10xx-10xx"}, {2, "xx-0x-1x"},
	} {
		same(t, c.text[:min(len(c.text), 40)], read(t, c.bits, c.text), api.OK, form(c.bits, raw(c.text)), api.OK)
	}
}

// P2.4
func TestHas(t *testing.T) {
	eachPair(t, func(a, _ space.Space, m, _ told, from *source) {
		list := []string{from.cube(m.bits, "01"), from.cube(m.bits, "01")}
		if m.bits <= 4 {
			list = headers(m.bits)
		}
		for c := range a.Cubes() {
			list = append(list, strings.ReplaceAll(c.Text(), "x", "1"))
			break
		}
		for _, h := range list {
			if a.Has(h) != m.has(h) {
				t.Fatalf("%q Has(%q) = %v", a.Text(), h, a.Has(h))
			}
		}
	})
}

// P2.4
func TestHasOfNoHeader(t *testing.T) {
	s := read(t, 3, "xxx-11x+110")
	for _, h := range []string{"", "0", "00", "0000", "x00", "00x", "xxx", "002", "0 0", "00\x00", "\xff00", "none", "000-111"} {
		if s.Has(h) {
			t.Errorf("Has(%q) = true", h)
		}
	}
	for h, want := range map[string]bool{"000": true, "101": true, "110": true, "111": false} {
		if s.Has(h) != want {
			t.Errorf("Has(%q) = %v", h, !want)
		}
	}
	if space.None(3).Has("000") {
		t.Error("None has a header")
	}
}

// P2.5 to P2.7, P2.12: the calls of two spaces, as they are told.
func TestTwoSpaces(t *testing.T) {
	budget := map[string]int{}
	eachPair(t, func(a, b space.Space, m, n told, from *source) {
		both := "\"" + m.text() + "\" \"" + n.text() + "\""
		check := func(call string, s space.Space, e api.Errno, want told, wantE api.Errno) {
			if same(t, call+" "+both, s, e, want, wantE); e == api.ErrBudget {
				budget[call]++
			}
		}
		s, e := a.Join(b)
		want, wantE := m.join(n)
		check("Join", s, e, want, wantE)
		s, e = a.Meet(b)
		want, wantE = m.meet(n)
		check("Meet", s, e, want, wantE)
		s, e = a.Minus(b)
		want, wantE = m.minus(n)
		check("Minus", s, e, want, wantE)
		limit := from.below(40)
		in, e := a.Within(b, limit)
		wantIn, wantE := m.within(n, limit)
		if in != wantIn || e != wantE {
			t.Fatalf("Within %s %d = %v, %d", both, limit, in, e)
		}
		same(t, "left as it was", a, api.OK, m, api.OK)
		same(t, "left as it was", b, api.OK, n, api.OK)
	})
	for _, call := range []string{"Join", "Meet", "Minus"} {
		if budget[call] == 0 {
			t.Errorf("%s never passed a limit: the trial shows less than it should", call)
		}
	}
}

// P2.5 to P2.9, P2.11, P2.12: what they say of each header.
func TestHeadersOfTwoSpaces(t *testing.T) {
	eachPair(t, func(a, b space.Space, m, n told, from *source) {
		if m.bits > 4 {
			return
		}
		word := from.cube(m.bits, "01x")
		join, _ := a.Join(b)
		meet, _ := a.Meet(b)
		minus, _ := a.Minus(b)
		before, _ := a.Before(cubeOf(word))
		after, e := a.After(cubeOf(word), api.MaxSplit)
		if e != api.OK {
			t.Fatalf("%q After(%s) = %d", a.Text(), word, e)
		}
		within, _ := a.Within(b, api.MaxSplit)
		all, least := true, ""
		written := map[string]bool{}
		for _, h := range headers(m.bits) {
			inA, inB := m.has(h), n.has(h)
			to := cubeOf(h).Write(cubeOf(word)).Text()
			if join.Has(h) != (inA || inB) || meet.Has(h) != (inA && inB) || minus.Has(h) != (inA && !inB) || before.Has(h) != m.has(to) {
				t.Fatalf("%q, %q, %s at %s: Join %v, Meet %v, Minus %v, Before %v", a.Text(), b.Text(), word, h, join.Has(h), meet.Has(h), minus.Has(h), before.Has(h))
			}
			all = all && (!inA || inB)
			written[to] = written[to] || inA
			if inA && least == "" {
				least = h
			}
		}
		for _, h := range headers(m.bits) {
			if after.Has(h) != written[h] {
				t.Fatalf("%q After(%s) has %s: %v", a.Text(), word, h, after.Has(h))
			}
		}
		if h, some, e := a.Least(api.MaxSplit); h != least || some != (least != "") || e != api.OK || within != all {
			t.Fatalf("%q, %q: Least %q, %v, %d, want %q; Within %v", a.Text(), b.Text(), h, some, e, least, within)
		}
	})
}

// P2.5: 128 cubes and no more.
func TestJoinCounts(t *testing.T) {
	a, b := read(t, 8, numbers(0, 64, 8, "", "+")), read(t, 8, numbers(64, 128, 8, "", "+"))
	s, e := a.Join(b)
	same(t, "64 and 64", s, e, form(8, raw(numbers(0, 128, 8, "", "+"))), api.OK)
	more, e := s.Join(read(t, 8, "11111111"))
	refused(t, "128 and 1", more, e, api.ErrBudget)
	more, e = s.Join(read(t, 8, "1xxxxxxx-11111111"))
	refused(t, "128 and one of size 2", more, e, api.ErrBudget)
	all, e := s.Join(read(t, 8, "0xxxxxxx"))
	same(t, "128 in one", all, e, form(8, raw("0xxxxxxx")), api.OK)
}

// P2.6: all headers leave a space as it is, from either side; all but one do not.
func TestMeetWithAllHeaders(t *testing.T) {
	eachPair(t, func(a, _ space.Space, m, _ told, _ *source) {
		all, most := x(m.bits), x(m.bits)+"-"+strings.Repeat("1", m.bits)
		for _, text := range []string{all, most} {
			other := read(t, m.bits, text)
			want, wantE := m.meet(form(m.bits, raw(text)))
			s, e := a.Meet(other)
			same(t, a.Text()+" Meet "+text, s, e, want, wantE)
			s, e = other.Meet(a)
			same(t, text+" Meet "+a.Text(), s, e, want, wantE)
		}
	})
	for _, text := range []string{numbers(0, 128, 8, "", "+"), "xxxxxxxx-" + numbers(0, 127, 8, "", "-"), "none", x(8)} {
		s, e := read(t, 8, text).Meet(read(t, 8, x(8)))
		same(t, "Meet all", s, e, form(8, raw(text)), api.OK)
	}
	for _, other := range []space.Space{{}, space.None(7), read(t, 9, x(9)), read(t, 9, "none")} {
		s, e := read(t, 8, x(8)).Meet(other)
		refused(t, "all Meet another width", s, e, api.ErrWidth)
		s, e = other.Meet(read(t, 8, x(8)))
		refused(t, "another width Meet all", s, e, api.ErrWidth)
	}
}

// P2.6: what counts is the number of pairs, whether they meet or not; behind the form, the size.
func TestMeetCounts(t *testing.T) {
	list := func(from, n int) space.Space {
		if n == 0 {
			return space.None(8)
		}
		return read(t, 8, numbers(from, from+n, 8, "", "+"))
	}
	for _, c := range []struct {
		a, b int
		want api.Errno
	}{{32, 64, api.OK}, {64, 32, api.OK}, {16, 128, api.OK}, {41, 50, api.ErrBudget}, {50, 41, api.ErrBudget}, {17, 128, api.ErrBudget}, {128, 128, api.ErrBudget}, {128, 0, api.OK}} {
		apart, alike := told{}, told{}
		if c.want == api.OK {
			apart, alike = told{bits: 8}, form(8, raw(list(0, min(c.a, c.b)).Text()))
		}
		s, e := list(0, c.a).Meet(list(128, c.b))
		same(t, "of cubes that do not meet", s, e, apart, c.want)
		s, e = list(0, c.a).Meet(list(0, c.b))
		same(t, "of cubes that are alike", s, e, alike, c.want)
	}
	a, b := read(t, 8, numbers(0, 16, 4, "xxxx", "+")), read(t, 8, "xxxx"+numbers(0, 8, 3, "x", "+xxxx"))
	if s, e := a.Meet(b); e != api.OK || s.Size() != 128 {
		t.Errorf("128 meets: %d, %d", s.Size(), e)
	}
	a, _ = a.Join(read(t, 8, "xxxxxxx1"))
	s, e := a.Meet(b)
	refused(t, "136 meets", s, e, api.ErrBudget)
}

// P2.7: what counts, at each term of t, is the terms of r times its cubes; and behind each term the size.
func TestMinusCounts(t *testing.T) {
	low := func(n int) space.Space { return read(t, 8, numbers(0, n, 8, "", "+")) }
	away := func(k int) space.Space { return read(t, 8, "1xxxxxxx-"+numbers(128, 128+k, 8, "", "-")) }
	for _, c := range []struct {
		n, k int
		want api.Errno
	}{{64, 31, api.OK}, {65, 31, api.ErrBudget}, {64, 32, api.ErrBudget}, {16, 127, api.OK}, {17, 127, api.ErrBudget}, {128, 15, api.OK}, {128, 16, api.ErrBudget}} {
		s, e := low(c.n).Minus(away(c.k))
		if c.want == api.OK {
			same(t, "Minus", s, e, form(8, raw(low(c.n).Text())), api.OK)
		} else {
			refused(t, "Minus", s, e, c.want)
		}
	}
	// The second term alone would leave one cube: the first one counts all the same.
	many, two := read(t, 9, numbers(0, 128, 7, "xx", "+")), read(t, 9, "xxxxxxx00+xxxxxxxxx-000000000")
	s, e := many.Minus(two)
	refused(t, "too great on the way", s, e, api.ErrBudget)
	s, e = many.Minus(read(t, 9, "xxxxxxxxx"))
	same(t, "all taken away", s, e, told{bits: 9}, api.OK)
	// 64 terms with one cube taken away each are 128 cubes.
	s, e = read(t, 9, numbers(0, 64, 7, "xx", "+")).Minus(read(t, 9, "xxxxxxx00"))
	if e != api.OK || s.Size() != 128 {
		t.Errorf("64 terms less one cube: %d, %d", s.Size(), e)
	}
	s, e = read(t, 9, numbers(0, 65, 7, "xx", "+")).Minus(read(t, 9, "xxxxxxx00"))
	refused(t, "65 terms less one cube", s, e, api.ErrBudget)
}

// P2.8 to P2.11, P2.13: the calls of one space, as they are told.
func TestOneSpace(t *testing.T) {
	budget := map[string]int{}
	eachPair(t, func(a, _ space.Space, m, _ told, from *source) {
		word, limit := from.cube(m.bits, "01x"+x(from.below(m.bits))), from.below(60)
		s, e := a.Before(cubeOf(word))
		same(t, m.text()+" Before "+word, s, e, m.before(word), api.OK)
		s, e = a.After(cubeOf(word), limit)
		want, wantE := m.after(word, limit)
		if same(t, m.text()+" After "+word, s, e, want, wantE); e == api.ErrBudget {
			budget["After"]++
		}
		cubes, e := a.Expand(limit)
		wantCubes, wantE := m.expand(limit)
		if e != wantE || texts(cubes) != strings.Join(wantCubes, " ") {
			t.Fatalf("%q Expand(%d) = %q, %d, want %q, %d", m.text(), limit, texts(cubes), e, wantCubes, wantE)
		}
		if e == api.ErrBudget {
			budget["Expand"]++
		}
		h, some, e := a.Least(limit)
		if wantH, wantSome, wantE := m.least(limit); h != wantH || some != wantSome || e != wantE {
			t.Fatalf("%q Least(%d) = %q, %v, %d, want %q, %v, %d", m.text(), limit, h, some, e, wantH, wantSome, wantE)
		}
		if wantCubes, wantE := m.expand(api.MaxSplit); wantE == api.OK {
			if got := texts(slices.Collect(a.Cubes())); got != strings.Join(wantCubes, " ") {
				t.Fatalf("%q Cubes = %q", m.text(), got)
			}
		}
		same(t, "left as it was", a, api.OK, m, api.OK)
	})
	for _, call := range []string{"After", "Expand"} {
		if budget[call] == 0 {
			t.Errorf("%s never passed a limit: the trial shows less than it should", call)
		}
	}
}

// P2.8: what Before answers is a space like any other: every call of it, and with it, answers what is told.
func TestSpacesOfBefore(t *testing.T) {
	budget := 0
	eachPair(t, func(a, b space.Space, m, n told, from *source) {
		word, again, limit := from.cube(m.bits, "01x"+x(from.below(m.bits))), from.cube(m.bits, "01xxx"), from.below(60)
		s, _ := a.Before(cubeOf(word))
		was := m.before(word)
		both := was.text() + ", " + n.text()
		check := func(call string, s space.Space, e api.Errno, want told, wantE api.Errno) {
			t.Helper()
			if same(t, call+" "+both, s, e, want, wantE); e == api.ErrBudget {
				budget++
			}
		}
		got, e := s.Meet(b)
		want, wantE := was.meet(n)
		check("Meet", got, e, want, wantE)
		got, e = b.Meet(s)
		check("Meet by the other", got, e, want, wantE)
		got, e = s.Join(b)
		want, wantE = was.join(n)
		check("Join", got, e, want, wantE)
		got, e = b.Join(s)
		check("Join by the other", got, e, want, wantE)
		got, e = s.Minus(b)
		want, wantE = was.minus(n)
		check("Minus", got, e, want, wantE)
		got, e = b.Minus(s)
		want, wantE = n.minus(was)
		check("Minus by the other", got, e, want, wantE)
		got, e = s.Before(cubeOf(again))
		check("Before", got, e, was.before(again), api.OK)
		got, e = s.After(cubeOf(again), limit)
		want, wantE = was.after(again, limit)
		check("After", got, e, want, wantE)
		cubes, e := s.Expand(limit)
		if wantCubes, wantE := was.expand(limit); e != wantE || texts(cubes) != strings.Join(wantCubes, " ") {
			t.Fatalf("%q Expand(%d) = %q, %d, want %q, %d", was.text(), limit, texts(cubes), e, wantCubes, wantE)
		}
		h, some, e := s.Least(limit)
		if wantH, wantSome, wantE := was.least(limit); h != wantH || some != wantSome || e != wantE {
			t.Fatalf("%q Least(%d) = %q, %v, %d", was.text(), limit, h, some, e)
		}
		in, e := s.Within(b, limit)
		if wantIn, wantE := was.within(n, limit); in != wantIn || e != wantE {
			t.Fatalf("Within %s %d = %v, %d", both, limit, in, e)
		}
		if wantCubes, wantE := was.expand(api.MaxSplit); wantE == api.OK && texts(slices.Collect(s.Cubes())) != strings.Join(wantCubes, " ") {
			t.Fatalf("%q Cubes", was.text())
		}
		same(t, "left as it was", s, api.OK, was, api.OK)
		same(t, "left as it was", a, api.OK, m, api.OK)
	})
	if budget == 0 {
		t.Error("never passed a limit: the trial shows less than it should")
	}
}

// P2.6, P2.8: what counts for a Meet is the terms that Before leaves in the form, not those that they come from.
func TestMeetCountsWhatBeforeLeaves(t *testing.T) {
	// Two cubes for each number, which are one where the last two bits are written.
	pairs := func(n int) space.Space {
		s, e := read(t, 8, numbers(0, n, 6, "0x", "+")+"+"+numbers(0, n, 6, "x0", "+")).Before(cubeOf("xxxxxx00"))
		if e != api.OK {
			t.Fatalf("Before = %d", e)
		}
		return s
	}
	many := read(t, 8, numbers(0, 64, 8, "", "+"))
	for _, c := range []struct {
		s    space.Space
		size int
		want api.Errno
	}{{pairs(16), 16, api.OK}, {pairs(17), 17, api.OK}, {pairs(32), 32, api.OK}, {pairs(33), 33, api.ErrBudget}, {pairs(64), 64, api.ErrBudget}} {
		if c.s.Size() != c.size {
			t.Fatalf("P2.8: size %d, want %d", c.s.Size(), c.size)
		}
		if s, e := c.s.Meet(many); e != c.want || e != api.OK && s.Size() != 0 {
			t.Errorf("P2.6: %d terms Meet 64: %d", c.size, e)
		}
		if s, e := many.Meet(c.s); e != c.want || e != api.OK && s.Size() != 0 {
			t.Errorf("P2.6: 64 terms Meet %d: %d", c.size, e)
		}
	}
}

// P2.8: the word that writes nothing leaves a space as it is; of another width it is refused all the same.
func TestBeforeByNothing(t *testing.T) {
	eachPair(t, func(a, _ space.Space, m, _ told, _ *source) {
		s, e := a.Before(tern.All(m.bits))
		same(t, "Before by nothing", s, e, m, api.OK)
	})
	for _, bits := range []int{0, 7, 9} {
		s, e := read(t, 8, "xxxxxxxx-1xxxxxxx").Before(tern.All(bits))
		refused(t, "Before by nothing", s, e, api.ErrWidth)
	}
}

// P2.10: every limit of some spaces; it may be passed on the way and not in the end.
func TestExpandAtEveryLimit(t *testing.T) {
	for _, c := range []struct {
		bits int
		text string
	}{{2, "xx-00-01-10-11"}, {4, "xxxx-0xxx-1xxx"}, {4, "xxxx-11xx-xx00"}, {4, "0xxx-00xx+1xxx-1111-11x0-10xx"}, {3, "0xx+1xx-1x1+x1x"}, {3, "000+001+010+011"}, {5, "xxxxx-11111-0000x-x1x1x+1xxxx-1111x"}, {3, "none"}, {1, "x"}} {
		s, m := read(t, c.bits, c.text), form(c.bits, raw(c.text))
		for limit := range 30 {
			cubes, e := s.Expand(limit)
			want, wantE := m.expand(limit)
			if e != wantE || texts(cubes) != strings.Join(want, " ") || e != api.OK && cubes != nil {
				t.Errorf("%q Expand(%d) = %q, %d, want %q, %d", c.text, limit, texts(cubes), e, want, wantE)
			}
			h, some, e := s.Least(limit)
			if wantH, wantSome, wantE := m.least(limit); h != wantH || some != wantSome || e != wantE {
				t.Errorf("%q Least(%d) = %q, %v, %d", c.text, limit, h, some, e)
			}
			_, e = s.After(tern.All(c.bits), limit)
			if e != wantE {
				t.Errorf("%q After(%d) = %d", c.text, limit, e)
			}
			in, e := s.Within(space.None(c.bits), limit)
			if e != wantE || in != (e == api.OK && len(want) == 0) {
				t.Errorf("%q Within(%d) = %v, %d", c.text, limit, in, e)
			}
		}
	}
}

// allButOne: so many terms, each all headers of 256 bits but one: 256 plain cubes.
func allButOne(terms int) string {
	var list []string
	for n := range terms {
		list = append(list, x(256)+"-"+number(n, 256))
	}
	return strings.Join(list, "+")
}

// P2.9, P2.10: MaxSplit cubes and no more; written they may be more than a space can have.
func TestExpandCounts(t *testing.T) {
	eight, nine := read(t, 256, allButOne(8)), read(t, 256, allButOne(9))
	if cubes, e := eight.Expand(api.MaxSplit); e != api.OK || len(cubes) != api.MaxSplit {
		t.Errorf("2048 cubes: %d, %d", len(cubes), e)
	}
	if cubes, e := eight.Expand(api.MaxSplit - 1); e != api.ErrBudget || cubes != nil {
		t.Errorf("2048 cubes of 2047: %d", e)
	}
	if cubes, e := nine.Expand(api.MaxSplit); e != api.ErrBudget || cubes != nil {
		t.Errorf("2304 cubes: %d", e)
	}
	s, e := eight.After(tern.All(256), api.MaxSplit)
	refused(t, "After of 2048 cubes", s, e, api.ErrBudget)
	s, e = eight.After(cubeOf(strings.Repeat("1", 200)+x(56)), api.MaxSplit)
	same(t, "After that leaves one cube", s, e, form(256, raw(strings.Repeat("1", 200)+x(56))), api.OK)
	one := read(t, 256, x(256)+"-"+strings.Repeat("1", 256))
	s, e = one.After(cubeOf(strings.Repeat("1", 255)+"x"), 256)
	same(t, "After of one term", s, e, form(256, raw(strings.Repeat("1", 255)+"x")), api.OK)
	low := read(t, 256, x(256)+"-"+strings.Repeat("1", 129)+x(127))
	s, e = low.After(tern.All(256), api.MaxSplit)
	refused(t, "After of 129 cubes", s, e, api.ErrBudget)
	low = read(t, 256, x(256)+"-"+strings.Repeat("1", 128)+x(128))
	if s, e = low.After(tern.All(256), api.MaxSplit); e != api.OK || s.Size() != 128 {
		t.Errorf("After of 128 cubes: %d, %d", s.Size(), e)
	}
}

// P2.12: ErrBudget of Minus, and of the expansion of what it leaves.
func TestWithinCounts(t *testing.T) {
	for _, c := range []struct {
		bits  int
		a, b  string
		limit int
		in    bool
		want  api.Errno
	}{
		{9, numbers(0, 65, 7, "xx", "+"), "xxxxxxx00", api.MaxSplit, false, api.ErrBudget},
		{9, numbers(0, 64, 7, "xx", "+"), "xxxxxxx00", api.MaxSplit, false, api.OK},
		{9, numbers(0, 64, 7, "xx", "+"), "xxxxxxx00", 127, false, api.ErrBudget},
		{9, numbers(0, 64, 7, "xx", "+"), "xxxxxxx00", 128, false, api.OK},
		{9, numbers(0, 65, 7, "xx", "+"), "xxxxxxxxx", 0, true, api.OK},
		{4, "xxxx", "0xxx+1xxx", 1, true, api.OK}, {4, "xxxx", "0xxx+1xxx", 0, false, api.ErrBudget}, {4, "none", "none", 0, true, api.OK}, {4, "none", "1xxx", 0, true, api.OK}, {4, "1xxx", "none", 1, false, api.OK},
	} {
		in, e := read(t, c.bits, c.a).Within(read(t, c.bits, c.b), c.limit)
		if in != c.in || e != c.want {
			t.Errorf("%.30q Within(%.30q, %d) = %v, %d", c.a, c.b, c.limit, in, e)
		}
	}
}

// P2.5 to P2.12: unlike widths ahead of all else, a limit that may not be ahead of the work.
func TestRefusals(t *testing.T) {
	great := read(t, 9, numbers(0, 65, 7, "xx", "+"))
	four, five, zero := read(t, 4, "1xxx"), read(t, 5, "1xxxx"), space.Space{}
	for _, c := range []struct {
		a, b  space.Space
		word  tern.Cube
		limit int
		want  api.Errno // of two spaces, or of a word
		lone  api.Errno // of the expansion
	}{
		{four, five, cubeOf("xxxxx"), 1, api.ErrWidth, api.OK}, {five, four, cubeOf("xxxx"), -1, api.ErrWidth, api.ErrArg},
		{zero, four, cubeOf("xxxx"), 1, api.ErrWidth, api.ErrWidth}, {four, zero, tern.Cube{}, 1, api.ErrWidth, api.OK}, {zero, zero, tern.Cube{}, -1, api.ErrWidth, api.ErrWidth}, {zero, zero, tern.Cube{}, 1 << 40, api.ErrWidth, api.ErrWidth}, {space.None(4), space.None(5), cubeOf("0"), 1, api.ErrWidth, api.OK}, {space.None(0), space.None(0), tern.Cube{}, 1, api.ErrWidth, api.ErrWidth},
		{great, read(t, 9, "xxxxxxx00"), tern.All(9), -1, api.ErrArg, api.ErrArg}, {great, read(t, 9, "xxxxxxx00"), tern.All(9), api.MaxSplit + 1, api.ErrArg, api.ErrArg}, {great, read(t, 9, "xxxxxxx00"), tern.All(9), -1 << 63, api.ErrArg, api.ErrArg}, {great, read(t, 9, "xxxxxxx00"), tern.All(9), 1<<63 - 1, api.ErrArg, api.ErrArg},
	} {
		if c.want == api.ErrWidth {
			for _, call := range []func(space.Space) (space.Space, api.Errno){c.a.Join, c.a.Meet, c.a.Minus} {
				s, e := call(c.b)
				refused(t, "of two spaces", s, e, api.ErrWidth)
			}
			s, e := c.a.Before(c.word)
			refused(t, "Before", s, e, api.ErrWidth)
		}
		s, e := c.a.After(c.word, c.limit)
		refused(t, "After", s, e, c.want)
		if in, e := c.a.Within(c.b, c.limit); in || e != c.want {
			t.Errorf("Within = %v, %d, want %d", in, e, c.want)
		}
		cubes, e := c.a.Expand(c.limit)
		h, some, e2 := c.a.Least(c.limit)
		if e != c.lone || e2 != c.lone || e != api.OK && (cubes != nil || h != "" || some) {
			t.Errorf("Expand = %v, %d, Least = %q, %v, %d, want %d", cubes, e, h, some, e2, c.lone)
		}
	}
}

// The zero Space has no term and no width.
func TestZeroSpace(t *testing.T) {
	var zero space.Space
	same(t, "zero", zero, api.OK, told{}, api.OK)
	if zero.Has("") || zero.Has("0") {
		t.Error("the zero Space has a header")
	}
	for range zero.Cubes() {
		t.Error("the zero Space has a cube")
	}
	if zero.Cubes() == nil || space.None(4).Cubes() == nil {
		t.Error("no iterator")
	}
}

// P2.13: as often as one likes, one inside another, and no further than asked.
func TestCubesManyTimes(t *testing.T) {
	s := read(t, 4, "0x00+xxxx-11xx-xx00")
	want, _ := s.Expand(api.MaxSplit)
	if len(want) != 5 {
		t.Fatalf("Expand = %q", texts(want))
	}
	seq := s.Cubes()
	var pairs []tern.Cube
	for a := range seq {
		for b := range seq {
			pairs = append(pairs, a, b)
		}
	}
	for i, a := range want {
		for j, b := range want {
			k := 2 * (5*i + j)
			if pairs[k] != a || pairs[k+1] != b {
				t.Fatalf("loops one inside another: %q", texts(pairs))
			}
		}
	}
	for stop := 1; stop <= 6; stop++ {
		calls := 0
		seq(func(c tern.Cube) bool {
			if c != want[calls] {
				t.Errorf("cube %d is %s", calls, c.Text())
			}
			calls++
			return calls < stop
		})
		if calls != min(stop, 5) {
			t.Errorf("told to stop at %d, handed on %d", stop, calls)
		}
	}
	next, stop := iter.Pull(seq)
	defer stop()
	for _, c := range want {
		if got, ok := next(); !ok || got != c {
			t.Errorf("pulled %s", got.Text())
		}
	}
	if _, ok := next(); ok {
		t.Error("more than all")
	}
}

// P2.13: the first cubes come at once, however many there are.
func TestCubesStops(t *testing.T) {
	var less []string
	for i := range 127 {
		b := []byte(x(256))
		b[2*i], b[2*i+1] = '1', '1'
		less = append(less, string(b))
	}
	s := read(t, 256, x(256)+"-"+strings.Join(less, "-"))
	if _, e := s.Expand(api.MaxSplit); e != api.ErrBudget {
		t.Fatalf("Expand = %d", e)
	}
	taken := 0
	for c := range s.Cubes() {
		if !s.Has(strings.ReplaceAll(c.Text(), "x", "0")) {
			t.Errorf("a cube that is not in it: %s", c.Text())
		}
		if taken++; taken == 1000 {
			break
		}
	}
}

// P2.13: nobody else's panic is caught.
func TestCubesLetsAPanicThrough(t *testing.T) {
	defer func() {
		if why := recover(); why != "mine" {
			t.Errorf("recovered %v", why)
		}
	}()
	for range read(t, 2, "0x+1x").Cubes() {
		panic("mine")
	}
	t.Error("the panic is gone")
}

// P2.14
func TestLaws(t *testing.T) {
	eachPair(t, func(a, b space.Space, m, n told, from *source) {
		c := read(t, m.bits, from.text(m.bits, 3, 3, "01xxxx"))
		one := func(s space.Space, e api.Errno, u space.Space, f api.Errno) {
			t.Helper()
			if e == api.OK && f == api.OK && s.Text() != u.Text() {
				t.Fatalf("of %q, %q, %q: %q and %q", a.Text(), b.Text(), c.Text(), s.Text(), u.Text())
			}
		}
		ab, e := a.Join(b)
		ba, f := b.Join(a)
		one(ab, e, ba, f)
		if e != f {
			t.Fatalf("Join: %d and %d", e, f)
		}
		mab, me := a.Meet(b)
		mba, mf := b.Meet(a)
		one(mab, me, mba, mf)
		if me != mf {
			t.Fatalf("Meet: %d and %d", me, mf)
		}
		aa, f := a.Join(a)
		one(aa, f, a, api.OK)
		aa, f = a.Meet(a)
		one(aa, f, a, api.OK)
		bc, be := b.Join(c)
		mbc, mbe := b.Meet(c)
		mac, mae := a.Meet(c)
		if e == api.OK && be == api.OK {
			left, e := ab.Join(c)
			right, f := a.Join(bc)
			one(left, e, right, f)
		}
		if me == api.OK && mbe == api.OK {
			left, e := mab.Meet(c)
			right, f := a.Meet(mbc)
			one(left, e, right, f)
		}
		if be == api.OK && me == api.OK && mae == api.OK {
			left, e := a.Meet(bc)
			right, f := mab.Join(mac)
			one(left, e, right, f)
		}
	})
}

// P2.2, P2.10, W6, W7: what goes in is neither changed nor kept, what comes out is new, spare room too.
func TestValues(t *testing.T) {
	list := []tern.Cube{cubeOf("1x1"), cubeOf("0x1"), cubeOf("01x"), cubeOf("111"), cubeOf("000"), cubeOf("000")}
	before := slices.Clone(list)
	s, _ := space.Of(tern.All(3), list[:4]...)
	if !slices.Equal(list, before) {
		t.Errorf("the list is now %q", texts(list))
	}
	for i := range list {
		list[i] = cubeOf("xxx")
	}
	want := form(3, raw("xxx-1x1-0x1-01x"))
	same(t, "Of", s, api.OK, want, api.OK)
	first, _ := s.Expand(api.MaxSplit)
	text := texts(first)
	second, _ := s.Expand(api.MaxSplit)
	seen := slices.Collect(s.Cubes())
	first = first[:cap(first)]
	for i := range first {
		first[i] = cubeOf("11x")
	}
	if texts(second) != text || texts(seen) != text {
		t.Errorf("Expand: %q and %q", texts(second), texts(seen))
	}
	same(t, "Of, expanded", s, api.OK, want, api.OK)
}

// W7: spaces that are made of one another stay what they are.
func TestNothingChangesASpace(t *testing.T) {
	from := source(5)
	made, want := []space.Space{read(t, 5, "xxxxx")}, []string{"xxxxx"}
	for len(made) < 400 {
		a, b, c := made[from.below(len(made))], made[from.below(len(made))], read(t, 5, from.text(5, 2, 2, "01xxxx"))
		word := cubeOf(from.cube(5, "01xxxx"))
		for _, call := range []func() (space.Space, api.Errno){
			func() (space.Space, api.Errno) { return a.Minus(c) },
			func() (space.Space, api.Errno) { return a.Join(b) },
			func() (space.Space, api.Errno) { return a.Meet(b) },
			func() (space.Space, api.Errno) { return a.Before(word) },
			func() (space.Space, api.Errno) { return a.After(word, 50) },
		} {
			if s, e := call(); e == api.OK {
				made, want = append(made, s), append(want, s.Text())
			}
		}
	}
	for i, s := range made {
		if s.Text() != want[i] {
			t.Fatalf("a space is %q and was %q", s.Text(), want[i])
		}
	}
}

// W7: many may use one space at the same time.
func TestManyAtOneTime(t *testing.T) {
	a, b := read(t, 6, "xxxxxx-11xxxx-xx00xx-xxxx01+0xxxxx-01x0xx"), read(t, 6, "1xxxxx-1x1xxx+xx0xx1")
	wantMinus, _ := a.Minus(b)
	wantMeet, _ := a.Meet(b)
	got := make([]string, 16)
	var all sync.WaitGroup
	for i := range got {
		all.Add(1)
		go func() {
			defer all.Done()
			minus, _ := a.Minus(b)
			meet, _ := a.Meet(b)
			got[i] = minus.Text() + " " + meet.Text()
		}()
	}
	all.Wait()
	for _, text := range got {
		if text != wantMinus.Text()+" "+wantMeet.Text() {
			t.Errorf("at one time: %q", text)
		}
	}
}
