package keeper

import (
	"errors"

	"reach/api"
)

// noDemand is what a refusal tells that is of no demand.
const noDemand = -1

func fault(why error, errno api.Errno) *api.Fault {
	return &api.Fault{Why: why, Code: errno, Demand: noDemand}
}

// full is the refusal of a record that there is no room for.
func full() *api.Fault { return fault(api.WhyState, api.ErrFull) }

// caught is the refusal that was recovered, nil where nothing was. Any other panic would be a fault of the program and goes on.
func caught(why any) *api.Fault {
	if why == nil {
		return nil
	}
	var f *api.Fault
	if err, ok := why.(error); ok && errors.As(err, &f) {
		return f
	}
	panic(why)
}
