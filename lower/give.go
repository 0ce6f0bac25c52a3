package lower

import "reach/api"

// refusal is what the work panics with where it gives up.
type refusal struct{ errno api.Errno }

// sure is what a layer below answers; the work gives up, if that refuses.
func sure[T any](answer T, errno api.Errno) T {
	if errno != api.OK {
		panic(refusal{errno})
	}
	return answer
}

// counter answers a closure that adds up what it is told, and gives up where that is more than limit.
func counter(limit int) func(more int) {
	sum := 0
	return func(more int) {
		if sum += more; sum > limit {
			panic(refusal{api.ErrBudget})
		}
	}
}

// give answers what the work makes, or why it gave up. Any other panic would be a fault of the program and goes on.
func give[T any](work func() T) (answer T, errno api.Errno) {
	defer func() {
		why := recover()
		if why == nil {
			return
		}
		own, ok := why.(refusal)
		if !ok {
			panic(why)
		}
		errno = own.errno
	}()
	return work(), api.OK
}
