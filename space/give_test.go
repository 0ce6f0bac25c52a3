package space

import (
	"testing"

	"reach/api"
)

// What gives up is told as ErrBudget, with a zero answer.
func TestGiveTellsOfABudget(t *testing.T) {
	if answer, e := give(func() int { return 7 }); answer != 7 || e != api.OK {
		t.Errorf("done: %d, %d", answer, e)
	}
	answer, e := give(func() int {
		spend(2, 2)
		spend(3, 2)
		return 7
	})
	if answer != 0 || e != api.ErrBudget {
		t.Errorf("given up: %d, %d", answer, e)
	}
}

// Nothing else is caught.
func TestGiveLetsOtherPanicsThrough(t *testing.T) {
	for _, why := range []any{"a fault", 3, struct{}{}, []int{1}} {
		func() {
			defer func() {
				if recover() == nil {
					t.Errorf("the panic %v is gone", why)
				}
			}()
			give(func() int { panic(why) })
		}()
	}
}
