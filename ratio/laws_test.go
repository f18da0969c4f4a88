package ratio_test

import (
	"testing"

	"fundadmin/api"
	"fundadmin/bigint"
	"fundadmin/ratio"
)

// The tests of this file are of P2.5. They judge the functions by each other, not by math/big.

// few returns ratios of which all pairs, most of them short enough for chains of three operations, can be tried thrice.
func few() []api.Ratio {
	l := []api.Ratio{
		frac(0, 1), frac(1, 1), frac(-1, 1), frac(1, 2), frac(-2, 3), frac(7, 6), frac(-1000003, 12), frac(1<<32, 1<<31-1), frac(-5, 1<<40),
		parts(power(479), one), parts(negative(one), power(479)), parts(ones(480), one), parts(negative(power(240)), ones(239)),
	}
	return append(l, random(6, 70)...)
}

// chain computes with ratios until a result does not fit.
type chain struct {
	t        *testing.T
	overflow bool
}

func (c *chain) do(f binary, a, b api.Ratio) api.Ratio {
	if c.overflow {
		return none
	}
	r, e := f.do(a, b)
	if e != api.OK && e != api.ErrOverflow {
		c.t.Fatalf("%s of %s and %s: error %d", f.name, show(a), show(b), e)
	}
	if e == api.OK && !ratio.Valid(r) {
		c.t.Errorf("%s of %s and %s is %s", f.name, show(a), show(b), show(r))
	}
	c.overflow = e != api.OK
	return r
}

func (c *chain) add(a, b api.Ratio) api.Ratio { return c.do(binary{"Add", ratio.Add}, a, b) }
func (c *chain) mul(a, b api.Ratio) api.Ratio { return c.do(binary{"Mul", ratio.Mul}, a, b) }
func (c *chain) sub(a, b api.Ratio) api.Ratio { return c.do(binary{"Sub", ratio.Sub}, a, b) }
func (c *chain) quo(a, b api.Ratio) api.Ratio { return c.do(binary{"Quo", ratio.Quo}, a, b) }

// compare is Cmp, which never overflows.
func compare(t *testing.T, a, b api.Ratio) int {
	t.Helper()
	n, e := ratio.Cmp(a, b)
	if e != api.OK {
		t.Fatalf("Cmp of %s and %s: error %d", show(a), show(b), e)
	}
	return n
}

// TestCommutative also holds errors against each other.
func TestCommutative(t *testing.T) {
	for _, f := range []binary{{"Add", ratio.Add}, {"Mul", ratio.Mul}} {
		for _, a := range samples() {
			for _, b := range samples() {
				x, e := f.do(a, b)
				y, wrong := f.do(b, a)
				expect(t, f.name+" of "+show(a)+" and "+show(b), x, e, y, wrong)
			}
		}
	}
}

func TestAssociativeAndDistributive(t *testing.T) {
	laws := map[string]func(c *chain, x, y, z api.Ratio) (left, right api.Ratio){
		"addition is associative": func(c *chain, x, y, z api.Ratio) (left, right api.Ratio) {
			return c.add(c.add(x, y), z), c.add(x, c.add(y, z))
		},
		"multiplication is associative": func(c *chain, x, y, z api.Ratio) (left, right api.Ratio) {
			return c.mul(c.mul(x, y), z), c.mul(x, c.mul(y, z))
		},
		"multiplication distributes": func(c *chain, x, y, z api.Ratio) (left, right api.Ratio) {
			return c.mul(x, c.add(y, z)), c.add(c.mul(x, y), c.mul(x, z))
		},
	}
	for name, law := range laws {
		held := 0
		for _, x := range few() {
			for _, y := range few() {
				for _, z := range few() {
					c := chain{t: t}
					left, right := law(&c, x, y, z)
					if c.overflow {
						continue
					}
					held++
					if left != right {
						t.Errorf("%s: %s, %s and %s: %s, %s", name, show(x), show(y), show(z), show(left), show(right))
					}
				}
			}
		}
		if held < 1000 {
			t.Errorf("%s: only %d triples without an overflow", name, held)
		}
	}
}

func TestSubUndoesAddAndQuoUndoesMul(t *testing.T) {
	sums, products := 0, 0
	for _, a := range samples() {
		for _, b := range samples() {
			c := chain{t: t}
			if r := c.sub(c.add(a, b), b); !c.overflow {
				sums++
				expect(t, show(a)+" + "+show(b)+" - "+show(b), r, api.OK, a, api.OK)
			}
			if b == frac(0, 1) {
				continue
			}
			c = chain{t: t}
			if r := c.quo(c.mul(a, b), b); !c.overflow {
				products++
				expect(t, show(a)+" * "+show(b)+" / "+show(b), r, api.OK, a, api.OK)
			}
		}
	}
	if sums < 400 || products < 400 {
		t.Errorf("only %d sums and %d products without an overflow", sums, products)
	}
}

// TestOrder holds that Cmp is 0 for equal ratios alone, changes its sign with the order, and has the sign of the difference.
func TestOrder(t *testing.T) {
	for _, a := range samples() {
		for _, b := range samples() {
			n := compare(t, a, b)
			if (n == 0) != (a == b) || n != -compare(t, b, a) {
				t.Errorf("Cmp of %s and %s is %d; the other way round %d", show(a), show(b), n, compare(t, b, a))
			}
			c := chain{t: t}
			difference := c.sub(a, b)
			if c.overflow {
				continue
			}
			if sign, e := ratio.Sign(difference); sign != n || e != api.OK {
				t.Errorf("Cmp of %s and %s is %d; the sign of the difference is %d, error %d", show(a), show(b), n, sign, e)
			}
		}
	}
}

// TestOrderOfThree holds that Cmp is transitive, and kept by adding the same ratio to both sides.
func TestOrderOfThree(t *testing.T) {
	for _, x := range few() {
		for _, y := range few() {
			for _, z := range few() {
				if compare(t, x, y) <= 0 && compare(t, y, z) <= 0 && compare(t, x, z) > 0 {
					t.Errorf("%s, %s and %s are in no order", show(x), show(y), show(z))
				}
				c := chain{t: t}
				left, right := c.add(x, z), c.add(y, z)
				if !c.overflow && compare(t, left, right) != compare(t, x, y) {
					t.Errorf("adding %s changes the order of %s and %s", show(z), show(x), show(y))
				}
			}
		}
	}
}

// TestFloorIsTheGreatest holds that Floor(r) <= r < Floor(r) + 1.
func TestFloorIsTheGreatest(t *testing.T) {
	for _, r := range samples() {
		floor, e := ratio.Floor(r)
		if e != api.OK {
			t.Fatalf("Floor of %s: error %d", show(r), e)
		}
		next, e := bigint.Add(floor, one)
		if e != api.OK {
			t.Fatalf("Floor of %s is %s", show(r), showInt(floor))
		}
		if compare(t, parts(floor, one), r) > 0 {
			t.Errorf("Floor of %s is %s", show(r), showInt(floor))
		}
		// The next whole number may be of 481 bits, and is not valid then, but above all ratios.
		if bigint.Bits(next) <= api.MaxBits && compare(t, r, parts(next, one)) >= 0 {
			t.Errorf("Floor of %s is %s", show(r), showInt(floor))
		}
	}
}
