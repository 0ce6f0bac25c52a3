package lower_test

// P9.7: networks that are the same have one and the same numbers.

import (
	"testing"

	"reach/api"
	"reach/conf"
	"reach/lower"
)

// shuffled: the same network in another order of what may be so.
func (s *source) shuffled(c api.Config) api.Config {
	c = withSpare(c)
	c.Links, c.Slices = mixed(s, c.Links), mixed(s, c.Slices)
	for at := range c.Boxes {
		b := &c.Boxes[at]
		b.Rules, b.Owns, b.Routes = mixed(s, b.Rules), mixed(s, b.Owns), mixed(s, b.Routes)
		for n := range b.Rules {
			b.Rules[n].From = mixed(s, b.Rules[n].From)
		}
	}
	return c
}

func TestSameNetworksHaveTheSameNumbers(t *testing.T) {
	s := source(97)
	codes := map[api.Errno]int{}
	for k := range 400 {
		c := s.small()
		switch {
		case k%8 == 0:
			c = s.great()
		case k%8 == 1 && len(c.Boxes) > 0:
			c.Boxes[0].Rules = append(c.Boxes[0].Rules, api.Rule{Priority: 9}, api.Rule{Priority: -1})
		}
		d := s.shuffled(c)
		if !conf.Same(c, d) {
			t.Fatalf("not the same: %+v, %+v", c, d)
		}
		n, errno := lower.Lower(c)
		m, again := lower.Lower(d)
		if (errno == api.OK) != (again == api.OK) || !equal(n, m) {
			t.Fatalf("P9.7: %+v: %+v, %d; the same in another order: %+v, %d", c, n, errno, m, again)
		}
		codes[errno]++
	}
	if codes[api.OK] < 200 || codes[api.ErrBudget] < 10 || codes[api.ErrPriority]+codes[api.ErrMatch] < 10 {
		t.Errorf("few networks of a kind: %v", codes)
	}
}

// The same call twice tells the same (W2).
func TestLowerTellsTheSameAgain(t *testing.T) {
	s := source(94)
	for range 20 {
		c := s.great()
		n, errno := lower.Lower(c)
		for range 5 {
			if m, again := lower.Lower(c); errno != again || !equal(n, m) {
				t.Fatalf("W2: %+v: %+v, %d; then %+v, %d", c, n, errno, m, again)
			}
		}
	}
}
