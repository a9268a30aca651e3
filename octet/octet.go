// Package octet has numbers as bytes: layer 1.
package octet

const width = 8 // bytes of a number

// Put lays numbers behind bytes, each as eight, the high ones first.
func Put(b []byte, ns ...uint64) []byte {
	// A fresh list: append to b might write into memory that is the caller's.
	out := make([]byte, 0, len(b)+width*len(ns))
	out = append(out, b...)
	for _, n := range ns {
		out = append(out, byte(n>>56), byte(n>>48), byte(n>>40), byte(n>>32),
			byte(n>>24), byte(n>>16), byte(n>>8), byte(n))
	}
	return out
}

// Get is the number at a place, and the place behind it; false, if it is not all there.
func Get(b []byte, at int) (uint64, int, bool) {
	// Not at+width > len(b): that sum goes round where at is near the greatest int.
	if at < 0 || at > len(b)-width {
		return 0, at, false
	}
	n := uint64(0)
	for _, x := range b[at : at+width] {
		n = n<<8 | uint64(x)
	}
	return n, at + width, true
}

// Small is Get of a number that is not above some.
func Small(b []byte, at, most int) (int, int, bool) {
	n, end, ok := Get(b, at)
	// most below 0 is asked for by itself: as a uint64 it would be greater than any int.
	if !ok || most < 0 || n > uint64(most) {
		return 0, at, false
	}
	return int(n), end, true
}

// First is the first place at which bytes differ, or at which one has ended; -1, if they are the same.
func First(a, b []byte) int {
	both := min(len(a), len(b))
	for i := range both {
		if a[i] != b[i] {
			return i
		}
	}
	if len(a) != len(b) {
		return both
	}
	return -1
}
