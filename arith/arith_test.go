package arith_test

import (
	"math"
	"math/big"
	"strconv"
	"testing"

	"concordat/api"
	"concordat/arith"
)

const least, most = -1 << 31, 1<<31 - 1

// numbers are those at which something may change.
var numbers = []int64{0, 1, 2, 3, 7, 10, 65535, 65536, 46341, most - 1, most, most + 1, most + 2, 1 << 32, 1<<32 + 5, 1<<33 - 1, math.MaxInt64 - 1, math.MaxInt64,
	-1, -2, -3, -7, -10, -65536, -46341, least + 1, least, least - 1, least - 2, -1 << 32, -1<<32 - 5, math.MinInt64 + 1, math.MinInt64}

// wrapped is the 32-bit integer that a number is, by its definition.
func wrapped(n *big.Int) int64 {
	x := new(big.Int).Mod(n, big.NewInt(1<<32))
	if x.Cmp(big.NewInt(most)) > 0 {
		x.Sub(x, big.NewInt(1<<32))
	}
	return x.Int64()
}

// P20.1
func TestWrap(t *testing.T) {
	for n, want := range map[int64]int64{0: 0, 5: 5, -5: -5, most: most, most + 1: least, least: least, least - 1: most, 1 << 32: 0, 1<<32 + 5: 5, math.MaxInt64: -1, math.MinInt64: 0} {
		if got := arith.Wrap(n); got != want {
			t.Errorf("Wrap(%d) = %d, want %d", n, got, want)
		}
	}
	for _, n := range numbers {
		if got := arith.Wrap(n); got != wrapped(big.NewInt(n)) {
			t.Errorf("Wrap(%d) = %d", n, got)
		}
	}
}

// P20.1
func TestDo(t *testing.T) {
	for _, c := range []struct {
		op   string
		a, b int64
		want int64
		e    api.Errno
	}{
		{"+", most, 1, least, api.OK},
		{"+", 2, 3, 5, api.OK},
		{"-", least, 1, most, api.OK},
		{"-", 2, 3, -1, api.OK},
		{"*", 65536, 65536, 0, api.OK},
		{"*", most, most, 1, api.OK},
		{"*", least, -1, least, api.OK},
		{"/", -7, 2, -3, api.OK},
		{"/", 7, -2, -3, api.OK},
		{"/", least, -1, least, api.OK},
		{"/", 1, 0, 0, api.ErrZero},
		{"/", 0, 0, 0, api.ErrZero},
		{"/", 1, 1 << 32, 0, api.ErrZero},
		{"/", 1<<32 + 7, 2, 3, api.OK},
		{"%", -7, 2, -1, api.OK},
		{"%", 7, -2, 1, api.OK},
		{"%", least, -1, 0, api.OK},
		{"%", 1, 0, 0, api.ErrZero},
		{"%", 1, -1 << 32, 0, api.ErrZero},
	} {
		if got, e := arith.Do(c.op, c.a, c.b); got != c.want || e != c.e {
			t.Errorf("%d %s %d = %d, %d, want %d, %d", c.a, c.op, c.b, got, e, c.want, c.e)
		}
	}
	for _, op := range []string{"", "==", "<", "&&", "||", "!", "++", " +", "+ ", "=", "x"} {
		for _, b := range []int64{0, 1} {
			if got, e := arith.Do(op, 3, b); got != 0 || e != api.ErrArg {
				t.Errorf("3 %s %d = %d, %d", op, b, got, e)
			}
		}
	}
}

// P20.1: all operators, held against numbers of any size.
func TestExact(t *testing.T) {
	for _, a := range numbers {
		for _, b := range numbers {
			x, y := big.NewInt(wrapped(big.NewInt(a))), big.NewInt(wrapped(big.NewInt(b)))
			want := map[string]*big.Int{"+": new(big.Int).Add(x, y), "-": new(big.Int).Sub(x, y), "*": new(big.Int).Mul(x, y)}
			if y.Sign() != 0 {
				want["/"], want["%"] = new(big.Int).Quo(x, y), new(big.Int).Rem(x, y)
			}
			for op, n := range want {
				if got, e := arith.Do(op, a, b); got != wrapped(n) || e != api.OK {
					t.Errorf("%d %s %d = %d, %d, want %d", a, op, b, got, e, wrapped(n))
				}
			}
			for op, holds := range map[string]bool{"<": x.Cmp(y) < 0, "<=": x.Cmp(y) <= 0, ">": x.Cmp(y) > 0, ">=": x.Cmp(y) >= 0, "==": x.Cmp(y) == 0, "!=": x.Cmp(y) != 0} {
				if got, is := arith.Test(op, a, b); got != holds || !is {
					t.Errorf("%d %s %d = %t, %t", a, op, b, got, is)
				}
			}
		}
		if got, want := arith.Neg(a), wrapped(new(big.Int).Neg(big.NewInt(a))); got != want {
			t.Errorf("Neg(%d) = %d, want %d", a, got, want)
		}
	}
}

// P20.2
func TestTest(t *testing.T) {
	for _, op := range []string{"", "+", "-", "%", "=", "!", "&&", "===", "< ", "<>"} {
		if got, is := arith.Test(op, 1, 1); got || is {
			t.Errorf("Test(%q) = %t, %t", op, got, is)
		}
	}
	if got, is := arith.Test("==", 1, 1<<32+1); !got || !is {
		t.Errorf("Test wraps nothing")
	}
}

// P20.3
func TestShowAndRead(t *testing.T) {
	for n, want := range map[int64]string{0: "0", -1: "-1", 10: "10", most: "2147483647", least: "-2147483648", most + 1: "-2147483648", least - 1: "2147483647", 1 << 32: "0", math.MaxInt64: "-1"} {
		if got := arith.Show(n); got != want {
			t.Errorf("Show(%d) = %q, want %q", n, got, want)
		}
	}
	for _, s := range []string{"", "-", "+1", "-0", "00", "01", "-01", "1 ", " 1", "1.0", "0x1", "1_0", "2147483648", "-2147483649", "99999999999999999999", "a", "١", "1\n", "--1"} {
		if n, is := arith.Read(s); n != 0 || is {
			t.Errorf("Read(%q) = %d, %t", s, n, is)
		}
	}
	for _, n := range numbers {
		x := wrapped(big.NewInt(n))
		if got, is := arith.Read(strconv.FormatInt(x, 10)); got != x || !is {
			t.Errorf("Read of %d = %d, %t", x, got, is)
		}
		if got, is := arith.Read(arith.Show(n)); got != x || !is {
			t.Errorf("Read(Show(%d)) = %d, %t", n, got, is)
		}
	}
}

// P20.4
func TestConsequences(t *testing.T) {
	do := func(op string, a, b int64) int64 {
		n, _ := arith.Do(op, a, b)
		return n
	}
	for _, a := range numbers {
		for _, b := range numbers {
			for _, op := range []string{"+", "*"} {
				if do(op, a, b) != do(op, b, a) {
					t.Errorf("%d %s %d", a, op, b)
				}
				for _, c := range numbers {
					if do(op, do(op, a, b), c) != do(op, a, do(op, b, c)) {
						t.Errorf("%d %s %d %s %d", a, op, b, op, c)
					}
				}
			}
			if arith.Wrap(b) != 0 && do("+", do("*", b, do("/", a, b)), do("%", a, b)) != arith.Wrap(a) {
				t.Errorf("%d / %d", a, b)
			}
		}
	}
}
