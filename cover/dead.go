package cover

import (
	"slices"

	"reach/api"
	"reach/xfer"
)

// dead are the entries that no packet meets, each with the reason.
func (t tables) dead(met []int) ([]api.Dead, api.Errno) {
	var list []api.Dead
	entries := slices.Concat(t.net.Tables...)
	for entry := range len(entries) {
		if met[entry] > 0 {
			continue
		}
		why, errno := t.why(entry, entries[entry])
		if errno != api.OK {
			return nil, errno
		}
		list = append(list, api.Dead{Entry: entry, Why: why})
	}
	return list, api.OK
}

func (t tables) why(entry int, e api.Entry) (int, api.Errno) {
	if len(e.Ins) == 0 || len(e.Cubes) == 0 {
		return api.DeadEmpty, api.OK
	}
	for _, port := range e.Ins {
		at := slices.IndexFunc(t.hits[port], func(h xfer.Part) bool { return h.Entry == entry })
		_, live, errno := t.hits[port][at].Space.Least(api.MaxSplit)
		if errno != api.OK {
			return 0, errno
		}
		if live {
			return api.DeadUnmet, api.OK
		}
	}
	return api.DeadHidden, api.OK
}
