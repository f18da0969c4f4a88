package decimal

import (
	"fundadmin/api"
	"fundadmin/bigint"
	"fundadmin/ratio"
)

// rounding is a number that is to be rounded; each mode is one of its methods.
type rounding struct {
	below, above api.Int // the whole numbers beside it, which are equal if it is whole itself
	nearer       int     // -1 if it is nearer to the one below, 1 if to the one above, 0 if it is a half
}

// scaled returns r * 10^places.
func scaled(r api.Ratio, places int) (rounding, api.Errno) {
	if !ratio.Valid(r) {
		return rounding{}, api.ErrRatio
	}
	if !isPlaces(places) {
		return rounding{}, api.ErrPlaces
	}
	// Nothing overflows here: the parts of a valid ratio leave room for far more than MaxPlaces.
	num, _ := bigint.Mul(r.Num, bigint.FromInt(tenTo(places)))
	below, rest, _ := bigint.DivMod(num, r.Den)
	twice, _ := bigint.Add(rest, rest)
	n := rounding{below: below, above: below, nearer: bigint.Cmp(twice, r.Den)}
	if bigint.Sign(rest) != 0 {
		n.above, _ = bigint.Add(below, bigint.FromInt(1))
	}
	return n, api.OK
}

// by returns the rounding that a mode stands for, or nil if it is none.
func (n rounding) by(mode int) func() api.Int {
	switch mode {
	case api.Down:
		return n.down
	case api.Up:
		return n.up
	case api.Floor:
		return n.floor
	case api.Ceil:
		return n.ceil
	case api.HalfUp:
		return n.halfUp
	case api.HalfEven:
		return n.halfEven
	}
	return nil
}

func (n rounding) floor() api.Int { return n.below }

func (n rounding) ceil() api.Int { return n.above }

func (n rounding) down() api.Int {
	if n.negative() {
		return n.above
	}
	return n.below
}

func (n rounding) up() api.Int {
	if n.negative() {
		return n.below
	}
	return n.above
}

func (n rounding) halfUp() api.Int { return n.nearest(n.up) }

func (n rounding) halfEven() api.Int { return n.nearest(n.even) }

// nearest leaves it to another rounding what becomes of a half.
func (n rounding) nearest(half func() api.Int) api.Int {
	switch {
	case n.nearer < 0:
		return n.below
	case n.nearer > 0:
		return n.above
	}
	return half()
}

// even returns the even one of two numbers beside each other.
func (n rounding) even() api.Int {
	if n.below.Mag[0]%2 == 0 {
		return n.below
	}
	return n.above
}

// negative reports whether the number is below 0, as it is exactly if the whole one below it is.
func (n rounding) negative() bool { return bigint.Sign(n.below) < 0 }

// whole reports whether there is nothing to round.
func (n rounding) whole() bool { return n.below == n.above }
