package codec

import "dovetail/api"

// words are an instruction's bits: the bit b of the byte n has the place 8 n + b.
type words [2]uint64

// wordsOf are the bits of the bytes that an instruction may have.
func wordsOf(b []byte) words {
	var w words
	for n := range min(len(b), api.MaxCode) {
		w[n/8] |= uint64(b[n]) << (n % 8 * 8)
	}
	return w
}

// bytes are the first ones, so many.
func (w words) bytes(size int) []byte {
	b := make([]byte, size)
	for n := range size {
		b[n] = byte(w[n/8] >> (n % 8 * 8))
	}
	return b
}

// set puts a 1 at a place.
func (w *words) set(place int) { w[place/64] |= 1 << (place % 64) }

// put sets those of the places whose bit is 1, the lowest bit at the first place.
func (w *words) put(places []int, bits uint64) {
	for n := range len(places) {
		if bits>>n&1 == 1 {
			w.set(places[n])
		}
	}
}

// get is what stands at the places, the lowest bit at the first one.
func (w words) get(places []int) uint64 {
	var bits uint64
	for n := range len(places) {
		bits |= w[places[n]/64] >> (places[n] % 64) & 1 << n
	}
	return bits
}

// among keeps the bits at the places where others are 1.
func (w words) among(others words) words {
	return words{w[0] & others[0], w[1] & others[1]}
}
