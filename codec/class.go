package codec

import (
	"slices"

	"dovetail/api"
	"dovetail/bvec"
)

// class is what a class says of its values: each is a number of so many bits, moved up by shift, more by plus.
type class struct {
	signed            bool
	bits, shift, plus int
	except            []int
}

// classOf is what a class that is right says; of registers its Shift is 0, of the others its Plus.
func classOf(c api.Class) class {
	signed := c.Kind != api.ClassReg && c.Kind != api.ClassUns
	return class{signed, c.Bits, c.Shift, c.Plus, slices.Clone(c.Except)}
}

func (c *class) has(value int) bool {
	// What wraps round here lies far outside of a class that has a plus.
	n := (value - c.plus) >> c.shift
	if n<<c.shift+c.plus != value || c.excepts(value) {
		return false
	}
	if c.signed {
		return bvec.FitsS(n, c.bits)
	}
	return bvec.FitsU(n, c.bits)
}

func (c *class) excepts(value int) bool { return slices.Contains(c.except, value) }

// encoded has the encoded bits of a value as its lowest ones.
func (c *class) encoded(value int) uint64 { return uint64((value - c.plus) >> c.shift) }

// value is what encoded bits make.
func (c *class) value(encoded uint64) int {
	n := int(encoded)
	if c.signed {
		n, _ = bvec.Int(bvec.Make(c.bits, 0, encoded))
	}
	return n<<c.shift + c.plus
}
