package snap

import (
	"slices"

	"muniment/api"
)

// unseenOf are the versions that none of the moments sees, of each key the oldest first: till a deletion is taken away nothing is left that it hides.
func unseenOf(all []version, moments []uint64) []version {
	var out []version
	for _, l := range groups(all) {
		seen := make([]bool, len(l)+1)
		for _, moment := range moments {
			seen[seenAt(l, moment)] = true
		}
		hides := false
		for i, v := range slices.Backward(l) {
			// A deletion with nothing to hide tells what no version would tell too.
			if seen[i] && (!v.gone || hides) {
				hides = true
				continue
			}
			out = append(out, v)
		}
	}
	return out
}

// takeAway takes versions away, in as many transactions of the store as it takes; how many. If there is no room for all, some are.
func (db *DB) takeAway(l []version) (int, api.Errno) {
	done := 0
	for size := len(l); done < len(l); {
		part := l[done:min(done+size, len(l))]
		e := db.roomy(func() api.Errno { return db.drop(part) })
		switch {
		case e == api.OK:
			done += len(part)
		case e == api.ErrFull && len(part) > 1:
			size = len(part) / 2
		case e == api.ErrFull && done > 0:
			return done, api.OK
		default:
			return 0, e
		}
	}
	return done, api.OK
}

// drop takes versions from the tree.
func (db *DB) drop(l []version) api.Errno {
	for _, v := range l {
		if e := db.tree.Del(v.cell); e != api.OK {
			return e
		}
	}
	return api.OK
}
