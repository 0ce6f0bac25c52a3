package flow

import (
	"testing"

	"reach/api"
)

// caught: what the face makes of a panic, and whether it goes on instead.
func caught(why any) (errno api.Errno, on bool) {
	defer func() { on = recover() != nil }()
	return refused(why), false
}

func TestRefusalsAreTold(t *testing.T) {
	if answer := sure(7, api.OK); answer != 7 {
		t.Errorf("sure: %d", answer)
	}
	for _, want := range []api.Errno{api.ErrBudget, api.ErrArg} {
		func() {
			defer func() {
				if errno, on := caught(recover()); errno != want || on {
					t.Errorf("refused: %d, %v; want %d", errno, on, want)
				}
			}()
			sure(7, want)
		}()
	}
}

// Nothing else is caught.
func TestOtherPanicsGoOn(t *testing.T) {
	for _, why := range []any{"a fault", 3, api.ErrBudget, struct{ errno api.Errno }{api.ErrBudget}, []int{1}} {
		if errno, on := caught(why); !on {
			t.Errorf("the panic %v is told as %d", why, errno)
		}
	}
}
