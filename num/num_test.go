package num_test

import (
	"math"
	"math/big"
	"testing"

	"furrow/num"
)

const (
	least = math.MinInt64
	most  = math.MaxInt64
)

// samples are the small numbers, of each sign, and those round the powers of 2 at which a word's half or its end lies.
func samples() []int64 {
	var l []int64
	for n := int64(-20); n <= 20; n++ {
		l = append(l, n, least+20+n, most-20+n)
	}
	for _, p := range []uint{31, 32, 33, 61, 62} {
		for d := int64(-1); d <= 1; d++ {
			l = append(l, 1<<p+d, -(1<<p + d))
		}
	}
	return append(l, most/3, most/2+1, least/2, least/2-1, least/3, 3037000499, 3037000500, -3037000500)
}

// pairs calls f with each two of samples.
func pairs(f func(a, b int64)) {
	l := samples()
	for _, a := range l {
		for _, b := range l {
			f(a, b)
		}
	}
}

type checked func(a, b int64) (int64, bool)

// holds tells whether f answers what exact is, or 0 and false where there is no such int64 (nil: no such number).
func holds(t *testing.T, name string, f checked, a, b int64, exact *big.Int) {
	t.Helper()
	var want int64
	ok := exact != nil && exact.IsInt64()
	if ok {
		want = exact.Int64()
	}
	if v, got := f(a, b); v != want || got != ok {
		t.Fatalf("P101: %s(%d, %d): %d, %v; want %d, %v", name, a, b, v, got, want, ok)
	}
}

type row struct {
	a, b, want int64
	ok         bool
}

func table(t *testing.T, name string, f checked, l []row) {
	t.Helper()
	for _, c := range l {
		if v, ok := f(c.a, c.b); v != c.want || ok != c.ok {
			t.Errorf("P101: %s(%d, %d): %d, %v; want %d, %v", name, c.a, c.b, v, ok, c.want, c.ok)
		}
	}
}

func TestAdd(t *testing.T) {
	table(t, "Add", num.Add, []row{
		{2, 3, 5, true}, {-2, 3, 1, true}, {2, -3, -1, true}, {-2, -3, -5, true}, {0, 0, 0, true},
		{most, 0, most, true}, {0, least, least, true}, {most - 1, 1, most, true}, {least + 1, -1, least, true}, {most, least, -1, true},
		{most, 1, 0, false}, {1, most, 0, false}, {least, -1, 0, false}, {-1, least, 0, false}, {most, most, 0, false}, {least, least, 0, false},
	})
	pairs(func(a, b int64) {
		holds(t, "Add", num.Add, a, b, new(big.Int).Add(big.NewInt(a), big.NewInt(b)))
	})
}

func TestSub(t *testing.T) {
	table(t, "Sub", num.Sub, []row{
		{2, 3, -1, true}, {-2, 3, -5, true}, {2, -3, 5, true}, {-2, -3, 1, true}, {0, 0, 0, true},
		{least, 0, least, true}, {least + 1, 1, least, true}, {most - 1, -1, most, true}, {least, least, 0, true}, {-1, least, most, true}, {0, most, -most, true},
		{0, least, 0, false}, {least, 1, 0, false}, {most, -1, 0, false}, {most, least, 0, false}, {least, most, 0, false}, {-2, most, 0, false},
	})
	pairs(func(a, b int64) {
		holds(t, "Sub", num.Sub, a, b, new(big.Int).Sub(big.NewInt(a), big.NewInt(b)))
	})
}

func TestMul(t *testing.T) {
	table(t, "Mul", num.Mul, []row{
		{6, 7, 42, true}, {-6, 7, -42, true}, {6, -7, -42, true}, {-6, -7, 42, true}, {0, 0, 0, true},
		{0, least, 0, true}, {-1, 0, 0, true}, {1, least, least, true}, {-1, most, -most, true}, {-1 << 32, 1 << 31, least, true}, {least / 2, 2, least, true},
		{-1, least, 0, false}, {least, -1, 0, false}, {1 << 32, 1 << 31, 0, false}, {-1 << 32, -1 << 31, 0, false}, {least / 2, -2, 0, false},
		{1 << 32, 1 << 32, 0, false}, {least, least, 0, false}, {most, most, 0, false}, {most, 2, 0, false}, {3037000500, 3037000500, 0, false},
	})
	pairs(func(a, b int64) {
		holds(t, "Mul", num.Mul, a, b, new(big.Int).Mul(big.NewInt(a), big.NewInt(b)))
	})
}

// floorOf goes by a remainder of 0 or above, which big's DivMod has and Go's own division has not.
func floorOf(a, b int64) *big.Int {
	if b == 0 {
		return nil
	}
	x, y := big.NewInt(a), big.NewInt(b)
	if b < 0 {
		x.Neg(x)
		y.Neg(y)
	}
	q, _ := new(big.Int).DivMod(x, y, new(big.Int))
	return q
}

// ceilOf is floorOf of the opposite, turned.
func ceilOf(a, b int64) *big.Int {
	if b == 0 {
		return nil
	}
	x, y := big.NewInt(-1), big.NewInt(b)
	x.Mul(x, big.NewInt(a))
	if b < 0 {
		x.Neg(x)
		y.Neg(y)
	}
	q, _ := new(big.Int).DivMod(x, y, new(big.Int))
	return q.Neg(q)
}

func TestFloor(t *testing.T) {
	table(t, "Floor", num.Floor, []row{
		{7, 2, 3, true}, {-7, 2, -4, true}, {7, -2, -4, true}, {-7, -2, 3, true}, {8, 2, 4, true}, {-8, 2, -4, true}, {8, -2, -4, true}, {-8, -2, 4, true},
		{0, 3, 0, true}, {0, -3, 0, true}, {1, 5, 0, true}, {-1, 5, -1, true}, {1, -5, -1, true}, {-1, -5, 0, true},
		{least, 1, least, true}, {most, -1, -most, true}, {least + 1, -1, most, true}, {least, most, -2, true}, {most, least, -1, true}, {1, least, -1, true}, {-1, least, 0, true}, {least, least, 1, true},
		{7, 0, 0, false}, {-7, 0, 0, false}, {0, 0, 0, false}, {least, 0, 0, false}, {least, -1, 0, false},
	})
	pairs(func(a, b int64) { holds(t, "Floor", num.Floor, a, b, floorOf(a, b)) })
}

func TestCeil(t *testing.T) {
	table(t, "Ceil", num.Ceil, []row{
		{7, 2, 4, true}, {-7, 2, -3, true}, {7, -2, -3, true}, {-7, -2, 4, true}, {8, 2, 4, true}, {-8, 2, -4, true}, {8, -2, -4, true}, {-8, -2, 4, true},
		{0, 3, 0, true}, {0, -3, 0, true}, {1, 5, 1, true}, {-1, 5, 0, true}, {1, -5, 0, true}, {-1, -5, 1, true},
		{least, 1, least, true}, {most, -1, -most, true}, {least + 1, -1, most, true}, {least, most, -1, true}, {most, least, 0, true}, {1, least, 0, true}, {-1, least, 1, true}, {least, least, 1, true},
		{7, 0, 0, false}, {-7, 0, 0, false}, {0, 0, 0, false}, {least, 0, 0, false}, {least, -1, 0, false},
	})
	pairs(func(a, b int64) { holds(t, "Ceil", num.Ceil, a, b, ceilOf(a, b)) })
}

func TestGcd(t *testing.T) {
	for _, c := range []struct {
		a, b int64
		want uint64
	}{
		{0, 0, 0}, {0, 4, 4}, {-4, 0, 4}, {1, 9, 1}, {12, 18, 6}, {-12, 18, 6}, {12, -18, 6}, {-12, -18, 6}, {18, 12, 6}, {5, 5, 5}, {35, 64, 1},
		{least, 0, 1 << 63}, {0, least, 1 << 63}, {least, least, 1 << 63}, {least, -1, 1}, {least, 48, 16}, {most, most, most}, {most, -most, most}, {most, least, 1}, {least / 2, least, 1 << 62},
	} {
		if v := num.Gcd(c.a, c.b); v != c.want {
			t.Errorf("P101: Gcd(%d, %d): %d; want %d", c.a, c.b, v, c.want)
		}
	}
	pairs(func(a, b int64) {
		x, y := big.NewInt(a), big.NewInt(b)
		want := new(big.Int).GCD(nil, nil, x.Abs(x), y.Abs(y))
		if v := num.Gcd(a, b); v != want.Uint64() {
			t.Fatalf("P101: Gcd(%d, %d): %d; want %d", a, b, v, want)
		}
	})
}

type loop struct {
	lo, hi, step int64
	times        uint64
	last         int64
}

func loops() []loop {
	return []loop{
		{1, 10, 1, 10, 10}, {1, 10, 4, 3, 9}, {-4, 4, 4, 3, 4}, {10, 1, -1, 10, 1}, {10, 1, -4, 3, 2}, {4, -4, -4, 3, -4},
		{3, 3, 1, 1, 3}, {3, 3, -1, 1, 3}, {3, 5, 7, 1, 3}, {5, 3, -7, 1, 5}, {3, 3, most, 1, 3}, {3, 3, least, 1, 3},
		{least, least, -1, 1, least}, {most, most, 1, 1, most}, {most - 1, most, 2, 1, most - 1}, {least + 1, least, -2, 1, least + 1},
		{least, most, most, 3, most - 1}, {most, least, least, 2, -1}, {most, least, -most, 3, least + 1}, {least, most, 3, 6148914691236517206, most},
		{least, most, 2, 1 << 63, most - 1}, {most, least, -2, 1 << 63, least + 1},
	}
}

// noTurns are loops whose step is 0, or leads away from hi.
func noTurns() []loop {
	return []loop{
		{1, 10, 0, 0, 1}, {10, 1, 0, 0, 10}, {3, 3, 0, 0, 3}, {least, most, 0, 0, least}, {2, 1, 1, 0, 2}, {1, 2, -1, 0, 1},
		{most, least, 1, 0, most}, {least, most, -1, 0, least}, {most, least, most, 0, most}, {least, most, least, 0, least},
	}
}

// allTurns are the loops over all numbers, and those that miss them by one.
func allTurns() []loop {
	return []loop{
		{least, most, 1, math.MaxUint64, most}, {most, least, -1, math.MaxUint64, least},
		{least, most - 1, 1, math.MaxUint64, most - 1}, {least + 1, most, 1, math.MaxUint64, most}, {most - 1, least, -1, math.MaxUint64, least},
		{least, most - 2, 1, math.MaxUint64 - 1, most - 2}, {most, least + 2, -1, math.MaxUint64 - 1, least + 2},
	}
}

func TestTimes(t *testing.T) {
	for _, l := range [][]loop{loops(), noTurns(), allTurns()} {
		for _, c := range l {
			if n := num.Times(c.lo, c.hi, c.step); n != c.times {
				t.Errorf("P101: Times(%d, %d, %d): %d; want %d", c.lo, c.hi, c.step, n, c.times)
			}
		}
	}
}

func TestLast(t *testing.T) {
	for _, l := range [][]loop{loops(), noTurns(), allTurns()} {
		for _, c := range l {
			if n := num.Last(c.lo, c.hi, c.step); n != c.last {
				t.Errorf("P101: Last(%d, %d, %d): %d; want %d", c.lo, c.hi, c.step, n, c.last)
			}
		}
	}
}

// walked counts a loop's turns, and keeps the last index, by walking it.
func walked(lo, hi, step int64) (uint64, int64) {
	n, last := uint64(0), lo
	for i := lo; step > 0 && i <= hi || step < 0 && i >= hi; i += step {
		n, last = n+1, i
	}
	return n, last
}

func TestLoopsAsWalked(t *testing.T) {
	for lo := int64(-9); lo <= 9; lo++ {
		for hi := int64(-9); hi <= 9; hi++ {
			for step := int64(-20); step <= 20; step++ {
				n, last := walked(lo, hi, step)
				if v := num.Times(lo, hi, step); v != n {
					t.Fatalf("P101: Times(%d, %d, %d): %d; want %d", lo, hi, step, v, n)
				}
				if v := num.Last(lo, hi, step); v != last {
					t.Fatalf("P101: Last(%d, %d, %d): %d; want %d", lo, hi, step, v, last)
				}
			}
		}
	}
}

// reckoned is what walked would tell, of loops that are too long to be walked.
func reckoned(lo, hi, step int64) (uint64, int64) {
	if step == 0 || step > 0 && lo > hi || step < 0 && lo < hi {
		return 0, lo
	}
	by := big.NewInt(step)
	k := new(big.Int).Sub(big.NewInt(hi), big.NewInt(lo))
	k.Quo(k, by)
	last := new(big.Int).Mul(k, by)
	last.Add(last, big.NewInt(lo))
	k.Add(k, big.NewInt(1))
	if !k.IsUint64() {
		return math.MaxUint64, last.Int64()
	}
	return k.Uint64(), last.Int64()
}

func TestLoopsAsReckoned(t *testing.T) {
	steps := samples()
	pairs(func(lo, hi int64) {
		for _, step := range steps {
			n, last := reckoned(lo, hi, step)
			if v := num.Times(lo, hi, step); v != n {
				t.Fatalf("P101: Times(%d, %d, %d): %d; want %d", lo, hi, step, v, n)
			}
			if v := num.Last(lo, hi, step); v != last {
				t.Fatalf("P101: Last(%d, %d, %d): %d; want %d", lo, hi, step, v, last)
			}
		}
	})
}
