package word

import (
	"math"
	"math/big"
	"testing"
)

const (
	least    = -1 << 31
	greatest = 1<<31 - 1
	round    = 1 << 32
)

// numbers has ordinary words, the edges of words, of widths and of ints, and
// numbers that are no words.
func numbers() []int {
	l := []int{0, 1, 2, 3, 7, 10, 12345, 65521, 0x5a5a5a5a, 1000000007,
		round + 5, 3*round - 1, 7*round + least, 0x123456789abcdef,
		math.MaxInt, math.MaxInt - 1, math.MinInt, math.MinInt + 1}
	for shift := range 63 {
		l = append(l, 1<<shift-1, 1<<shift, 1<<shift+1)
	}
	for _, n := range l {
		l = append(l, -n)
	}
	return l
}

// widths has all bits that are asked for, and those that are not.
func widths() []int {
	l := []int{math.MinInt, math.MinInt + 1, -round, -64, -32, -2, math.MaxInt, round, round + 1, 1000, 128}
	for bits := -1; bits <= 70; bits++ {
		l = append(l, bits)
	}
	return l
}

// brought is the reference: a number brought round, reckoned without machine
// words, from the least word on upwards.
func brought(n *big.Int) int {
	shifted := new(big.Int).Sub(n, big.NewInt(least))
	shifted.Mod(shifted, big.NewInt(round)) // never below 0
	return int(shifted.Int64()) + least
}

func large(n int) *big.Int { return big.NewInt(int64(n)) }

func isWord(n int) bool { return least <= n && n <= greatest }

// P1.1: Wrap at the edges that the chapter names.
func TestWrapEdges(t *testing.T) {
	cases := []struct{ n, want int }{
		{0, 0}, {1, 1}, {-1, -1}, {12345, 12345},
		{greatest, greatest}, {greatest + 1, least}, {least, least}, {least - 1, greatest},
		{round, 0}, {round - 1, -1}, {round + 1, 1}, {-round, 0}, {-round - 1, -1},
		{5*round + 9, 9}, {-5*round - 9, -9},
		{math.MaxInt, -1}, {math.MinInt, 0}, {math.MinInt + 1, 1},
	}
	for _, c := range cases {
		if got := Wrap(c.n); got != c.want {
			t.Errorf("Wrap(%d) = %d, want %d", c.n, got, c.want)
		}
	}
}

// P1.1: Wrap, at all numbers, against the reference.
func TestWrapIsBroughtRound(t *testing.T) {
	for _, n := range numbers() {
		if got, want := Wrap(n), brought(large(n)); got != want {
			t.Errorf("Wrap(%d) = %d, want %d", n, got, want)
		}
	}
}

// P1.1: sums, differences and products at the edges.
func TestReckonEdges(t *testing.T) {
	cases := []struct {
		name string
		call func(int, int) int
		a, b int
		want int
	}{
		{"Add", Add, 2, 3, 5},
		{"Add", Add, greatest, 1, least},
		{"Add", Add, least, -1, greatest},
		{"Add", Add, least, least, 0},
		{"Add", Add, round + 2, 3 - round, 5},
		{"Add", Add, math.MaxInt, 1, 0},
		{"Sub", Sub, 2, 3, -1},
		{"Sub", Sub, least, 1, greatest},
		{"Sub", Sub, 0, least, least},
		{"Sub", Sub, greatest, -1, least},
		{"Sub", Sub, math.MinInt, 1, -1},
		{"Mul", Mul, -6, 7, -42},
		{"Mul", Mul, 1 << 16, 1 << 16, 0},
		{"Mul", Mul, 1 << 16, 1 << 15, least},
		{"Mul", Mul, least, -1, least},
		{"Mul", Mul, greatest, greatest, 1},
		{"Mul", Mul, round + 3, round + 5, 15},
		{"Mul", Mul, math.MaxInt, math.MaxInt, 1},
	}
	for _, c := range cases {
		if got := c.call(c.a, c.b); got != c.want {
			t.Errorf("%s(%d, %d) = %d, want %d", c.name, c.a, c.b, got, c.want)
		}
	}
}

// P1.1: sums, differences and products, of all pairs, against the reference.
func TestReckonIsBroughtRound(t *testing.T) {
	for _, a := range numbers() {
		for _, b := range numbers() {
			x, y := large(brought(large(a))), large(brought(large(b)))
			if got, want := Add(a, b), brought(new(big.Int).Add(x, y)); got != want {
				t.Errorf("Add(%d, %d) = %d, want %d", a, b, got, want)
			}
			if got, want := Sub(a, b), brought(new(big.Int).Sub(x, y)); got != want {
				t.Errorf("Sub(%d, %d) = %d, want %d", a, b, got, want)
			}
			if got, want := Mul(a, b), brought(new(big.Int).Mul(x, y)); got != want {
				t.Errorf("Mul(%d, %d) = %d, want %d", a, b, got, want)
			}
		}
	}
}

// P1.2: quotients at the edges that the chapter names.
func TestDivEdges(t *testing.T) {
	cases := []struct{ a, b, q, r int }{
		{7, 2, 3, 1}, {-7, 2, -3, -1}, {7, -2, -3, 1}, {-7, -2, 3, -1},
		{6, 3, 2, 0}, {0, 5, 0, 0}, {1, 2, 0, 1}, {-1, 2, 0, -1},
		{least, -1, least, 0}, {least, 1, least, 0}, {least, least, 1, 0}, {least, greatest, -1, -1},
		{greatest, -1, -greatest, 0}, {greatest, least, 0, greatest},
		{greatest + 1, 2, -1 << 30, 0}, {round + 7, 2, 3, 1}, {7, round + 2, 3, 1},
		{7, round - 2, -3, 1}, {round - 7, 2, -3, -1}, {-round, 3, 0, 0},
		{1 << 31, round - 1, least, 0}, {math.MaxInt, 1, -1, 0}, {math.MinInt, -1, 0, 0},
	}
	for _, c := range cases {
		if q, r, ok := Div(c.a, c.b); q != c.q || r != c.r || !ok {
			t.Errorf("Div(%d, %d) = %d, %d, %v, want %d, %d, true", c.a, c.b, q, r, ok, c.q, c.r)
		}
	}
}

// P1.2: there is no quotient by 0, nor by what is brought round to 0.
func TestDivByNought(t *testing.T) {
	for _, b := range []int{0, round, -round, 2 * round, -3 * round, 1 << 62, math.MinInt} {
		for _, a := range numbers() {
			if q, r, ok := Div(a, b); q != 0 || r != 0 || ok {
				t.Errorf("Div(%d, %d) = %d, %d, %v, want 0, 0, false", a, b, q, r, ok)
			}
		}
	}
}

// P1.2: quotients, of all pairs, against the reference.
func TestDivIsCutTowardsNought(t *testing.T) {
	for _, a := range numbers() {
		for _, b := range numbers() {
			x, y := large(brought(large(a))), large(brought(large(b)))
			if y.Sign() == 0 {
				continue
			}
			wantQ, wantR := new(big.Int).QuoRem(x, y, new(big.Int))
			q, r, ok := Div(a, b)
			if q != brought(wantQ) || r != brought(wantR) || !ok {
				t.Errorf("Div(%d, %d) = %d, %d, %v, want %d, %d, true", a, b, q, r, ok, brought(wantQ), brought(wantR))
			}
		}
	}
}

// P1.3: Fits at the edges that the chapter names.
func TestFitsEdges(t *testing.T) {
	cases := []struct {
		n, bits int
		want    bool
	}{
		{0, 1, true}, {-1, 1, true}, {1, 1, false}, {-2, 1, false},
		{1, 2, true}, {2, 2, false}, {-2, 2, true}, {-3, 2, false},
		{32767, 16, true}, {32768, 16, false}, {-32768, 16, true}, {-32769, 16, false},
		{greatest, 32, true}, {greatest + 1, 32, false}, {least, 32, true}, {least - 1, 32, false},
		{greatest + 1, 33, true}, {round, 16, false}, {round + 1, 32, false}, {-round, 32, false}, {-round, 33, true}, {-round - 1, 33, false},
		{1<<61 - 1, 62, true}, {1 << 61, 62, false}, {-1 << 61, 62, true}, {-1<<61 - 1, 62, false},
		{math.MaxInt, 62, false}, {math.MinInt, 62, false}, {math.MaxInt, 64, false}, {math.MinInt, 64, false},
		{0, 0, false}, {0, -1, false}, {0, 63, false}, {0, 64, false}, {0, 65, false},
		{0, math.MinInt, false}, {0, math.MaxInt, false}, {0, round + 1, false},
	}
	for _, c := range cases {
		if got := Fits(c.n, c.bits); got != c.want {
			t.Errorf("Fits(%d, %d) = %v, want %v", c.n, c.bits, got, c.want)
		}
	}
}

// wantFits is the reference of Fits.
func wantFits(n int, bits int) bool {
	if bits < 1 || bits > 62 {
		return false
	}
	half := new(big.Int).Exp(big.NewInt(2), large(bits-1), nil)
	return large(n).Cmp(new(big.Int).Neg(half)) >= 0 && large(n).Cmp(half) < 0
}

// P1.3: Fits, at all numbers and bits, against the reference.
func TestFitsAll(t *testing.T) {
	for _, n := range numbers() {
		for _, bits := range widths() {
			if got, want := Fits(n, bits), wantFits(n, bits); got != want {
				t.Errorf("Fits(%d, %d) = %v, want %v", n, bits, got, want)
			}
		}
	}
}

// P1.3: Extend at the edges that the chapter names.
func TestExtendEdges(t *testing.T) {
	cases := []struct{ n, bits, want int }{
		{0, 1, 0}, {1, 1, -1}, {2, 1, 0}, {-1, 1, -1},
		{1, 2, 1}, {2, 2, -2}, {3, 2, -1}, {4, 2, 0},
		{0x7fff, 16, 32767}, {0x8000, 16, -32768}, {0xffff, 16, -1}, {0x12345678, 16, 0x5678}, {-32769, 16, 32767},
		{greatest, 31, -1}, {1 << 30, 31, -1 << 30}, {greatest, 32, greatest}, {1 << 31, 32, least}, {least, 32, least},
		{round + 5, 32, 5}, {round - 5, 32, -5}, {round + 0x8000, 16, -32768},
		{math.MaxInt, 32, -1}, {math.MinInt, 32, 0},
		{5, 0, 0}, {5, -1, 0}, {5, 33, 0}, {-1, 33, 0}, {5, 62, 0}, {5, 63, 0}, {5, 64, 0},
		{5, math.MinInt, 0}, {5, math.MaxInt, 0}, {5, round + 16, 0},
	}
	for _, c := range cases {
		if got := Extend(c.n, c.bits); got != c.want {
			t.Errorf("Extend(%d, %d) = %d, want %d", c.n, c.bits, got, c.want)
		}
	}
}

// P1.3: what Extend tells fits so many bits, and its lowest ones are n's:
// there is only one such number.
func TestExtendAll(t *testing.T) {
	for _, n := range numbers() {
		for _, bits := range widths() {
			got := Extend(n, bits)
			if bits < 1 || bits > 32 {
				if got != 0 {
					t.Errorf("Extend(%d, %d) = %d, want 0", n, bits, got)
				}
				continue
			}
			apart := new(big.Int).Sub(large(n), large(got))
			apart.Mod(apart, new(big.Int).Lsh(big.NewInt(1), uint(bits)))
			if !wantFits(got, bits) || apart.Sign() != 0 {
				t.Errorf("Extend(%d, %d) = %d", n, bits, got)
			}
		}
	}
}

// P1.4: what is told is a word.
func TestAnswersAreWords(t *testing.T) {
	for _, a := range numbers() {
		for _, b := range numbers() {
			q, r, _ := Div(a, b)
			for i, n := range []int{Wrap(a), Add(a, b), Sub(a, b), Mul(a, b), q, r} {
				if !isWord(n) {
					t.Errorf("answer %d of %d and %d is %d, which is no word", i, a, b, n)
				}
			}
		}
		for _, bits := range widths() {
			if n := Extend(a, bits); !isWord(n) {
				t.Errorf("Extend(%d, %d) = %d, which is no word", a, bits, n)
			}
		}
	}
}

// P1.4: the laws of numbers modulo 2^32 that take two numbers.
func TestLawsOfTwo(t *testing.T) {
	for _, a := range numbers() {
		for _, b := range numbers() {
			laws := []bool{
				Wrap(Wrap(a)) == Wrap(a),
				Add(a, b) == Add(b, a),
				Mul(a, b) == Mul(b, a),
				Add(a, 0) == Wrap(a),
				Mul(a, 1) == Wrap(a),
				Mul(a, 0) == 0,
				Sub(a, a) == 0,
				Sub(a, b) == Add(a, Mul(b, -1)),
				Add(Sub(a, b), b) == Wrap(a),
				Add(a, round) == Wrap(a),
			}
			for i, holds := range laws {
				if !holds {
					t.Errorf("law %d does not hold of %d and %d", i, a, b)
				}
			}
		}
	}
}

// P1.4: the laws of numbers modulo 2^32 that take three.
func TestLawsOfThree(t *testing.T) {
	few := []int{0, 1, -1, 3, 65537, greatest, least, greatest + 1, least - 1, round + 7, 0x123456789abcdef, math.MaxInt, math.MinInt}
	for _, a := range few {
		for _, b := range few {
			for _, c := range few {
				laws := []bool{
					Add(Add(a, b), c) == Add(a, Add(b, c)),
					Mul(Mul(a, b), c) == Mul(a, Mul(b, c)),
					Mul(a, Add(b, c)) == Add(Mul(a, b), Mul(a, c)),
				}
				for i, holds := range laws {
					if !holds {
						t.Errorf("law %d does not hold of %d, %d and %d", i, a, b, c)
					}
				}
			}
		}
	}
}

// P1.4: a quotient, times b, and what is left over, are a.
func TestQuotientAndRestAreWhole(t *testing.T) {
	for _, a := range numbers() {
		for _, b := range numbers() {
			q, r, ok := Div(a, b)
			if ok != (Wrap(b) != 0) {
				t.Errorf("Div(%d, %d): %v", a, b, ok)
			}
			if ok && Add(Mul(q, b), r) != Wrap(a) {
				t.Errorf("Div(%d, %d) = %d, %d, which are not %d", a, b, q, r, Wrap(a))
			}
		}
	}
}
