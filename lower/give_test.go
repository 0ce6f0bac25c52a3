package lower

import (
	"testing"

	"reach/api"
)

// What gives up is told by its error, with a zero answer.
func TestGiveTellsOfARefusal(t *testing.T) {
	if answer, errno := give(func() int { return sure(7, api.OK) }); answer != 7 || errno != api.OK {
		t.Errorf("done: %d, %d", answer, errno)
	}
	if answer, errno := give(func() int { return sure(7, api.ErrRoute) }); answer != 0 || errno != api.ErrRoute {
		t.Errorf("refused: %d, %d", answer, errno)
	}
	answer, errno := give(func() int {
		count := counter(5)
		count(3)
		count(2)
		count(0)
		count(1)
		return 7
	})
	if answer != 0 || errno != api.ErrBudget {
		t.Errorf("counted: %d, %d", answer, errno)
	}
}

func TestCountersCountApart(t *testing.T) {
	answer, errno := give(func() int {
		for range 3 {
			count := counter(5)
			count(5)
		}
		return 7
	})
	if answer != 7 || errno != api.OK {
		t.Errorf("each up to its limit: %d, %d", answer, errno)
	}
}

// Nothing else is caught.
func TestGiveLetsOtherPanicsThrough(t *testing.T) {
	for _, why := range []any{"a fault", 3, api.ErrBudget, struct{ errno api.Errno }{api.ErrBudget}, []int{1}} {
		func() {
			defer func() {
				if recover() == nil {
					t.Errorf("the panic %v is gone", why)
				}
			}()
			give(func() int { panic(why) })
		}()
	}
}
