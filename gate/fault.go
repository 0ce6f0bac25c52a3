package gate

import (
	"errors"

	"reach/api"
)

// Which text a refusal is of.
const (
	ofNeither = 0
	ofConfig  = 1
	ofQuery   = 2
)

// noDemand is what a refusal tells that is of no demand.
const noDemand = -1

// fault is what the work gives up with, by a panic that the faces recover.
func fault(why error, errno api.Errno, text int) *api.Fault {
	return faultOf(noDemand, why, errno, text)
}

// faultOf is the fault of the demand of that number.
func faultOf(number int, why error, errno api.Errno, text int) *api.Fault {
	return &api.Fault{Why: why, Code: errno, Text: text, Demand: number}
}

// nothing is the refusal where there is nothing to work on.
func nothing() *api.Fault { return fault(api.WhyState, api.ErrNothing, ofNeither) }

// refuse gives up, if there is an error.
func refuse(why error, errno api.Errno, text int) {
	if errno != api.OK {
		panic(fault(why, errno, text))
	}
}

// refuseFull gives up, if there is no room for one more.
func refuseFull(count, most int) {
	if count >= most {
		panic(fault(api.WhyState, api.ErrFull, ofNeither))
	}
}

// caught is the refusal that was recovered, nil where nothing was. Any other panic would be a fault of the program and goes on.
func caught(why any) *api.Fault {
	if why == nil {
		return nil
	}
	var f *api.Fault
	if err, ok := why.(error); ok && errors.As(err, &f) {
		return f
	}
	panic(why)
}
