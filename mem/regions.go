package mem

import (
	"cmp"
	"math"
	"slices"

	"dovetail/api"
)

// check says what is wrong with regions, wherever the others lie.
func check(l []api.Region) api.Errno {
	if tooMany(l) {
		return api.ErrMemMany
	}
	for _, r := range l {
		if !isPerm(r.Perm) || beyond(r) {
			return api.ErrRegion
		}
	}
	return api.OK
}

// tooMany says whether there are too many regions, or too many bytes in them.
func tooMany(l []api.Region) bool {
	if len(l) > api.MaxRegions {
		return true
	}
	bytes := 0
	for _, r := range l {
		bytes += len(r.Bytes)
	}
	return bytes > api.MaxMemory
}

// isPerm says whether a number is a sum of permissions.
func isPerm(n int) bool { return n >= 0 && n <= allPerms }

// beyond says whether some of a region's bytes would lie beyond the last address.
func beyond(r api.Region) bool {
	return len(r.Bytes) > 0 && uint64(len(r.Bytes)-1) > math.MaxUint64-r.At
}

// last is where the last byte of a region that has bytes lies: where it ends might be 2^64.
func last(r api.Region) uint64 { return r.At + uint64(len(r.Bytes)-1) }

// inPlace are those of the regions that have bytes, by rising At.
func inPlace(l []api.Region) []api.Region {
	var out []api.Region
	for _, r := range l {
		if len(r.Bytes) > 0 {
			out = append(out, r)
		}
	}
	slices.SortFunc(out, func(a, b api.Region) int { return cmp.Compare(a.At, b.At) })
	return out
}

// overlap says whether some regions, which have bytes and come by rising At, share an address.
func overlap(l []api.Region) bool {
	// If any two do, then so does the first of them with the one behind it.
	for n := 1; n < len(l); n++ {
		if l[n].At <= last(l[n-1]) {
			return true
		}
	}
	return false
}

// copied is regions with bytes of their own.
func copied(l []api.Region) []api.Region {
	out := slices.Clone(l)
	for n := range out {
		out[n].Bytes = slices.Clone(out[n].Bytes)
	}
	return out
}
