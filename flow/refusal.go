package flow

import "reach/api"

// refusal is what the walk panics with where it passes a limit.
type refusal struct{ errno api.Errno }

// sure is what a layer below answers; the walk gives up, if that refuses.
func sure[T any](answer T, errno api.Errno) T {
	if errno != api.OK {
		panic(refusal{errno})
	}
	return answer
}

// refused is the error of a refusal. Any other panic would be a fault of the program and goes on.
func refused(why any) api.Errno {
	own, ok := why.(refusal)
	if !ok {
		panic(why)
	}
	return own.errno
}
