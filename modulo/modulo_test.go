package modulo_test

import (
	"math"
	"math/big"
	"math/rand"
	"slices"
	"testing"

	"lanyard/limb"
	"lanyard/modulo"
)

const most = math.MaxUint32

// number computes the number of n from its definition.
func number(n []uint32) *big.Int {
	sum := new(big.Int)
	for i := len(n) - 1; i >= 0; i-- {
		sum.Lsh(sum, 32)
		sum.Add(sum, new(big.Int).SetUint64(uint64(n[i])))
	}
	return sum
}

// limbsOf returns the normalized slice with the number v.
func limbsOf(v *big.Int) []uint32 {
	var n []uint32
	mask := new(big.Int).SetUint64(most)
	for rest := new(big.Int).Set(v); rest.Sign() > 0; rest.Rsh(rest, 32) {
		n = append(n, uint32(new(big.Int).And(rest, mask).Uint64()))
	}
	return n
}

// padded returns n with zero limbs behind it, so that it is not normalized.
func padded(n []uint32, zeros int) []uint32 {
	return slices.Concat(n, make([]uint32, zeros))
}

// power returns 2 to the power of bit.
func power(bit int) []uint32 {
	n := make([]uint32, bit/32+1)
	n[bit/32] = 1 << (bit % 32)
	return n
}

func filled(value uint32, size int) []uint32 {
	return slices.Repeat([]uint32{value}, size)
}

// edges are normalized slices at which limbs, and estimates of digits, are the least and the greatest.
func edges() [][]uint32 {
	l := [][]uint32{
		{}, {1}, {2}, {3}, {7}, {1 << 16}, {1<<31 - 1}, {1 << 31}, {1<<31 + 1}, {most - 1}, {most},
		{0, 1}, {1, 1}, {most, 1}, {0, most}, {1, most}, {most, most}, {most - 1, most}, {most, most - 1},
		{0, 1 << 31}, {1, 1 << 31}, {most, 1 << 31}, {most, 1<<31 - 1},
		{0, 0, 1}, {1, 0, 1}, {0, most, 1}, {most, 0, most}, {0, most, most}, {most, most, most},
		{0, 0, 1 << 31}, {1, 0, 1 << 31}, {most, 0, 1 << 31}, {0, most, 1 << 31}, {most, most, 1 << 31},
		{most, 0, 1}, {most, most, 1}, {most, 0, 1<<31 - 1}, {0, 0, 0, 1}, {1, 0, 0, most}, {most, 1, 0, 1 << 31},
		{0x89abcdef, 0x01234567}, {0x33221100, 0x77665544, 0xbbaa9988, 0xffeeddcc},
	}
	for _, size := range []int{4, 5, 9} {
		l = append(l, filled(most, size), power(32*size), power(32*size-1), filled(1, size))
	}
	return l
}

func randomOf(r *rand.Rand, size int) []uint32 {
	n := make([]uint32, size)
	for i := range n {
		switch r.Intn(4) {
		case 0:
			n[i] = most
		case 1: // left 0
		default:
			n[i] = r.Uint32()
		}
	}
	return limbsOf(number(n))
}

// withRandom returns the edges, and many others of up to size limbs. They are the same ones in every run.
func withRandom(seed int64, many, size int) [][]uint32 {
	r := rand.New(rand.NewSource(seed))
	l := edges()
	for range many {
		l = append(l, randomOf(r, r.Intn(size+1)))
	}
	return l
}

// zeros are slices with the number 0.
func zeros() [][]uint32 {
	return [][]uint32{nil, {}, {0}, {0, 0}, make([]uint32, 20)}
}

func isSlice(t *testing.T, name string, n, want []uint32) {
	t.Helper()
	if !slices.Equal(n, want) {
		t.Errorf("%s is %v, want %v", name, n, want)
	}
}

// isDivided holds the quotient and the remainder of a and m, which is not 0, against those of the Go library.
func isDivided(t *testing.T, a, m []uint32) {
	t.Helper()
	q, r, is := modulo.DivMod(a, m)
	if !is {
		t.Errorf("DivMod of %v and %v is false", a, m)
	}
	wantQ, wantR := new(big.Int).QuoRem(number(a), number(m), new(big.Int))
	if !slices.Equal(q, limbsOf(wantQ)) || !slices.Equal(r, limbsOf(wantR)) {
		t.Errorf("DivMod of %v and %v is %v and %v, want %v and %v", a, m, q, r, limbsOf(wantQ), limbsOf(wantR))
	}
}

// P8.1

func TestDivMod(t *testing.T) {
	for _, c := range []struct{ a, m, q, r []uint32 }{
		{[]uint32{100}, []uint32{7}, []uint32{14}, []uint32{2}},
		{nil, []uint32{7}, nil, nil},
		{nil, []uint32{0, 7}, nil, nil},
		{[]uint32{0, 0, 0}, []uint32{7}, nil, nil},
		{[]uint32{6}, []uint32{7}, nil, []uint32{6}},
		{[]uint32{7}, []uint32{7}, []uint32{1}, nil},
		{[]uint32{8}, []uint32{7}, []uint32{1}, []uint32{1}},
		{[]uint32{1, 2, 3}, []uint32{1}, []uint32{1, 2, 3}, nil},
		{[]uint32{5, 6, 7}, []uint32{0, 1}, []uint32{6, 7}, []uint32{5}},
		{[]uint32{5, 6, 7}, []uint32{0, 0, 1}, []uint32{7}, []uint32{5, 6}},
		{[]uint32{5, 6, 7}, []uint32{0, 0, 0, 1}, nil, []uint32{5, 6, 7}},
		{[]uint32{0, 1}, []uint32{2}, []uint32{1 << 31}, nil},
		{[]uint32{0, 1}, []uint32{most}, []uint32{1}, []uint32{1}},
		{[]uint32{most, most}, []uint32{most}, []uint32{1, 1}, nil},
		{[]uint32{1, most - 1}, []uint32{most}, []uint32{most}, nil},
		{[]uint32{0, 0, 1}, []uint32{most, most}, []uint32{1}, []uint32{1}},
		{[]uint32{1, 2, 3}, []uint32{1, 2, 3}, []uint32{1}, nil},
		{[]uint32{0, 2, 3}, []uint32{1, 2, 3}, nil, []uint32{0, 2, 3}},
		{[]uint32{2, 2, 3}, []uint32{1, 2, 3}, []uint32{1}, []uint32{1}},
		{[]uint32{100, 0, 0}, []uint32{7, 0}, []uint32{14}, []uint32{2}},
		{[]uint32{0, 1, 0, 0}, []uint32{2, 0, 0, 0, 0}, []uint32{1 << 31}, nil},
	} {
		q, r, is := modulo.DivMod(c.a, c.m)
		if !is {
			t.Errorf("DivMod of %v and %v is false", c.a, c.m)
		}
		isSlice(t, "a quotient", q, c.q)
		isSlice(t, "a remainder", r, c.r)
	}
}

func TestDivModByZero(t *testing.T) {
	for _, m := range zeros() {
		for _, a := range append(edges(), zeros()...) {
			if q, r, is := modulo.DivMod(a, m); is || q != nil || r != nil {
				t.Errorf("DivMod of %v and %v is %v, %v and %t, want nil, nil and false", a, m, q, r, is)
			}
		}
	}
}

func TestDivModOfAllPairs(t *testing.T) {
	l := withRandom(1, 150, 12)
	for _, m := range l {
		if len(m) == 0 {
			continue
		}
		for _, a := range l {
			isDivided(t, a, m)
			isDivided(t, padded(a, 3), m)
			isDivided(t, a, padded(m, 2))
			isDivided(t, padded(a, 1), padded(m, 30))
		}
	}
}

// Next to a multiple of m a digit is estimated too large, or its estimate has no room in a limb.
func TestDivModNextToMultiples(t *testing.T) {
	l := withRandom(2, 100, 8)
	for _, m := range l {
		for _, q := range l {
			if len(m) == 0 || len(q) == 0 {
				continue
			}
			multiple := limb.Mul(q, m)
			less, _ := limb.Sub(multiple, []uint32{1})
			isDivided(t, multiple, m)
			isDivided(t, less, m)
			isDivided(t, limb.Add(multiple, []uint32{1}), m)
			isDivided(t, limb.Add(multiple, limb.Mul(m, []uint32{0, most})), m)
			last, _ := limb.Sub(limb.Add(multiple, m), []uint32{1})
			isDivided(t, last, m)
		}
	}
}

func TestEstimates(t *testing.T) {
	for _, c := range []struct{ a, m, q, r []uint32 }{
		// The upper limbs alone have the quotient 2, but a is less than twice m.
		{[]uint32{1, 0, 0, 1}, []uint32{1, 0, 1 << 31}, []uint32{1}, []uint32{0, 0, 1 << 31}},
		{[]uint32{most - 2, 1, 0, 1}, []uint32{most, 0, 1 << 31}, []uint32{1}, []uint32{most - 1, 0, 1 << 31}},
		// The two upper limbs of a are those of m.
		{[]uint32{most, 4, 7, 1 << 31}, []uint32{5, 7, 1 << 31}, []uint32{most}, []uint32{4, 7, 1 << 31}},
		{[]uint32{0, 0, 7, 1 << 31}, []uint32{5, 7, 1 << 31}, []uint32{most}, []uint32{5, 2, 1 << 31}},
		{[]uint32{0, 0, 0, 1 << 31}, []uint32{most, 0, 1 << 31}, []uint32{most}, []uint32{most, 1, 1<<31 - 1}},
		{[]uint32{0, 0, most, most}, []uint32{most, most, most}, []uint32{most}, []uint32{most, 0, most}},
		// Only the first of them is.
		{[]uint32{0, 0, 6, 1 << 31}, []uint32{5, 7, 1 << 31}, []uint32{most}, []uint32{5, 2, 1<<31 - 1}},
	} {
		q, r, is := modulo.DivMod(c.a, c.m)
		if !is {
			t.Errorf("DivMod of %v and %v is false", c.a, c.m)
		}
		isSlice(t, "a quotient", q, c.q)
		isSlice(t, "a remainder", r, c.r)
	}
}

func TestDivModOfEveryNumberOfBits(t *testing.T) {
	for bit := range 200 {
		m := power(bit)
		for _, other := range []int{0, 1, 31, 32, 33, 64, 95, 96, 128, 199, 250} {
			a := power(other)
			one := []uint32{1}
			less, _ := limb.Sub(a, one)
			for _, n := range [][]uint32{a, less, limb.Add(a, one)} {
				isDivided(t, n, m)
				isDivided(t, n, limb.Add(m, one))
				if lessM, _ := limb.Sub(m, one); len(lessM) > 0 {
					isDivided(t, n, lessM)
				}
			}
		}
	}
}

func TestDivModOfLongNumbers(t *testing.T) {
	r := rand.New(rand.NewSource(3))
	for range 100 {
		a, m := randomOf(r, r.Intn(700)), randomOf(r, 1+r.Intn(300))
		if len(m) > 0 {
			isDivided(t, a, m)
			isDivided(t, limb.Mul(a, m), m)
		}
	}
	isDivided(t, filled(most, 3000), filled(most, 1001))
	isDivided(t, power(32*3000), filled(most, 1001))
	isDivided(t, filled(most, 3000), []uint32{3})
}

// P8.2

func TestMul(t *testing.T) {
	for _, c := range []struct{ a, b, m, want []uint32 }{
		{[]uint32{3}, []uint32{4}, []uint32{7}, []uint32{5}},
		{[]uint32{3}, []uint32{4}, []uint32{12}, nil},
		{[]uint32{3}, []uint32{4}, []uint32{13}, []uint32{12}},
		{[]uint32{10}, []uint32{11}, []uint32{7}, []uint32{5}},
		{nil, []uint32{4}, []uint32{7}, nil},
		{[]uint32{4}, []uint32{0, 0}, []uint32{7}, nil},
		{[]uint32{4}, []uint32{5}, []uint32{1}, nil},
		{[]uint32{4, 0}, []uint32{5, 0, 0}, []uint32{7, 0}, []uint32{6}},
		{[]uint32{most}, []uint32{most}, []uint32{0, 1}, []uint32{1}},
		{[]uint32{most}, []uint32{most}, []uint32{0, 0, 1}, []uint32{1, most - 1}},
		{[]uint32{0, 1}, []uint32{0, 1}, []uint32{most, most}, []uint32{1}},
	} {
		got, is := modulo.Mul(c.a, c.b, c.m)
		if !is {
			t.Errorf("Mul of %v, %v and %v is false", c.a, c.b, c.m)
		}
		isSlice(t, "Mul", got, c.want)
	}
}

func TestMulOfMany(t *testing.T) {
	l := withRandom(4, 20, 9)
	for _, a := range l {
		for _, b := range l {
			product := new(big.Int).Mul(number(a), number(b))
			for _, m := range l {
				if len(m) == 0 {
					continue
				}
				want := limbsOf(new(big.Int).Mod(product, number(m)))
				got, is := modulo.Mul(a, b, m)
				padding, isToo := modulo.Mul(padded(a, 1), padded(b, 2), padded(m, 3))
				if !is || !isToo || !slices.Equal(got, want) || !slices.Equal(padding, want) {
					t.Errorf("Mul of %v, %v and %v is %v and %t, want %v", a, b, m, got, is, want)
				}
			}
		}
	}
}

func TestExp(t *testing.T) {
	for _, c := range []struct{ a, e, m, want []uint32 }{
		{[]uint32{3}, []uint32{4}, []uint32{7}, []uint32{4}},
		{[]uint32{3}, nil, []uint32{7}, []uint32{1}},
		{[]uint32{3}, []uint32{0, 0}, []uint32{7}, []uint32{1}},
		{nil, nil, []uint32{7}, []uint32{1}},
		{[]uint32{7}, nil, []uint32{7}, []uint32{1}},
		{nil, []uint32{1}, []uint32{7}, nil},
		{[]uint32{0, 0}, []uint32{5}, []uint32{7}, nil},
		{[]uint32{7}, []uint32{5}, []uint32{7}, nil},
		{[]uint32{3}, []uint32{4}, []uint32{1}, nil},
		{[]uint32{3}, nil, []uint32{1}, nil},
		{nil, nil, []uint32{1, 0}, nil},
		{[]uint32{3}, []uint32{1}, []uint32{7}, []uint32{3}},
		{[]uint32{10}, []uint32{1}, []uint32{7}, []uint32{3}},
		{[]uint32{10}, []uint32{2}, []uint32{7}, []uint32{2}},
		{[]uint32{3, 0}, []uint32{4, 0, 0}, []uint32{7, 0}, []uint32{4}},
		{[]uint32{2}, []uint32{31}, []uint32{0, 1}, []uint32{1 << 31}},
		{[]uint32{2}, []uint32{32}, []uint32{0, 1}, nil},
		{[]uint32{2}, []uint32{33}, []uint32{0, 0, 1}, []uint32{0, 2}},
		{[]uint32{6}, []uint32{0, 1}, []uint32{10}, []uint32{6}},
		{[]uint32{2}, []uint32{1, 1}, []uint32{7}, []uint32{4}},
		{[]uint32{most}, []uint32{most}, []uint32{0, 1}, []uint32{most}},
	} {
		got, is := modulo.Exp(c.a, c.e, c.m)
		if !is {
			t.Errorf("Exp of %v, %v and %v is false", c.a, c.e, c.m)
		}
		isSlice(t, "Exp", got, c.want)
	}
}

func TestExpOfSmallNumbers(t *testing.T) {
	for a := range uint32(20) {
		for m := uint32(1); m < 20; m++ {
			want := 1 % m
			for e := range uint32(40) {
				got, is := modulo.Exp([]uint32{a}, []uint32{e}, []uint32{m})
				if !is || !slices.Equal(got, limbsOf(big.NewInt(int64(want)))) {
					t.Errorf("Exp of %d, %d and %d is %v and %t, want %d", a, e, m, got, is, want)
				}
				want = want * a % m
			}
		}
	}
}

// isPower holds the power of a with exponent e, modulo m, which is not 0, against that of the Go library.
func isPower(t *testing.T, a, e, m []uint32) {
	t.Helper()
	want := new(big.Int).Exp(number(a), number(e), number(m))
	got, is := modulo.Exp(a, e, m)
	if !is || !slices.Equal(got, limbsOf(want)) {
		t.Errorf("Exp of %v, %v and %v is %v and %t, want %v", a, e, m, got, is, limbsOf(want))
	}
}

func TestExpOfMany(t *testing.T) {
	l := withRandom(5, 10, 6)
	for _, m := range l {
		if len(m) == 0 {
			continue
		}
		for i, a := range l {
			for j, e := range l {
				if (i+j)%5 == 0 && len(e) < 4 {
					isPower(t, a, e, m)
					isPower(t, padded(a, 2), padded(e, 3), padded(m, 1))
				}
			}
		}
	}
}

// The keys of rsa have up to 512 bytes.
func TestExpOfKeys(t *testing.T) {
	r := rand.New(rand.NewSource(6))
	for _, size := range []int{62, 128, 255, 256, 257, 384, 511, 512} {
		b := make([]byte, size)
		r.Read(b)
		b[0] |= 128
		b[size-1] |= 1
		m := limb.From(b)
		r.Read(b)
		a := limb.From(b)
		for _, e := range []uint32{3, 65537, most} {
			isPower(t, a, []uint32{e}, m)
		}
		isPower(t, a, limb.From(b[:40]), m)
	}
	isPower(t, filled(most, 128), filled(most, 8), power(128*32-1))
	isPower(t, filled(most, 200), []uint32{65537}, filled(most, 128))
}

func TestMulAndExpModuloZero(t *testing.T) {
	l := append(zeros(), []uint32{1}, []uint32{5}, []uint32{0, 1}, []uint32{most, most, most}, []uint32{7, 0})
	for _, m := range zeros() {
		for _, a := range l {
			for _, b := range l {
				if r, is := modulo.Mul(a, b, m); is || r != nil {
					t.Errorf("Mul of %v, %v and %v is %v and %t, want nil and false", a, b, m, r, is)
				}
				if r, is := modulo.Exp(a, b, m); is || r != nil {
					t.Errorf("Exp of %v, %v and %v is %v and %t, want nil and false", a, b, m, r, is)
				}
			}
		}
	}
}

// P8.3

func TestQuotientAndRemainderMakeTheNumber(t *testing.T) {
	l := withRandom(7, 150, 12)
	for _, m := range l {
		for _, a := range l {
			q, r, is := modulo.DivMod(a, m)
			if is != (len(m) > 0) {
				t.Errorf("DivMod of %v and %v is %t", a, m, is)
			}
			if !is {
				continue
			}
			isSlice(t, "q * m + r", limb.Add(limb.Mul(q, m), r), a)
			if limb.Cmp(r, m) >= 0 {
				t.Errorf("the remainder of %v and %v is %v", a, m, r)
			}
			isSlice(t, "q", limb.Bare(q), q)
			isSlice(t, "r", limb.Bare(r), r)
		}
	}
}

func TestRemainderOfProduct(t *testing.T) {
	l := withRandom(8, 20, 9)
	for _, m := range l {
		if len(m) == 0 {
			continue
		}
		for _, a := range l {
			_, restA, _ := modulo.DivMod(a, m)
			for _, b := range l {
				_, restB, _ := modulo.DivMod(b, m)
				whole, is := modulo.Mul(a, b, m)
				parts, isToo := modulo.Mul(restA, restB, m)
				if !is || !isToo {
					t.Errorf("Mul modulo %v is false", m)
				}
				isSlice(t, "the remainder of a product", whole, parts)
			}
		}
	}
}

func TestPowerOfSumOfExponents(t *testing.T) {
	r := rand.New(rand.NewSource(9))
	for range 300 {
		a, e, f := randomOf(r, r.Intn(6)), randomOf(r, r.Intn(3)), randomOf(r, r.Intn(3))
		m := limb.Add(randomOf(r, r.Intn(6)), []uint32{1})
		first, _ := modulo.Exp(a, e, m)
		second, _ := modulo.Exp(a, f, m)
		product, _ := modulo.Mul(first, second, m)
		whole, is := modulo.Exp(a, limb.Add(e, f), m)
		if !is {
			t.Errorf("Exp of %v modulo %v is false", a, m)
		}
		isSlice(t, "the power with the sum of two exponents", whole, product)
	}
}

// R3 and R4

// results returns every result that a, b and m have.
func results(a, b, m []uint32) [][]uint32 {
	q, r, _ := modulo.DivMod(a, m)
	product, _ := modulo.Mul(a, b, m)
	power, _ := modulo.Exp(a, b, m)
	return [][]uint32{q, r, product, power}
}

// inRoom returns n with limbs behind it that it could grow into.
func inRoom(n []uint32) []uint32 {
	return slices.Concat(n, filled(77, 40))[:len(n)]
}

func isUnchanged(t *testing.T, n, want []uint32) {
	t.Helper()
	isSlice(t, "an argument, and what is behind it,", n[:cap(n)][:len(want)+40], slices.Concat(want, filled(77, 40)))
}

func TestArgumentsAreNeitherChangedNorShared(t *testing.T) {
	l := [][]uint32{nil, {0, 0}, {1}, {7}, {7, 0}, {0, 1}, {most, most}, {most, 0, 0}, {1, 2, 3}, {1, 2, 1 << 31, 0}}
	for _, first := range l {
		for _, second := range l {
			for _, third := range l {
				a, b, m := inRoom(first), inRoom(second), inRoom(third)
				got, want := results(a, b, m), results(first, second, third)
				isUnchanged(t, a, first)
				isUnchanged(t, b, second)
				isUnchanged(t, m, third)
				clear(a[:cap(a)])
				clear(b[:cap(b)])
				clear(m[:cap(m)])
				for i := range got {
					isSlice(t, "a result, after the arguments were cleared,", got[i], want[i])
					clear(got[i][:cap(got[i])])
				}
				for i, n := range results(first, second, third) {
					isSlice(t, "a later result", n, want[i])
				}
			}
		}
	}
}

// Results have no room behind them: what is appended to one must not land in memory that another slice has.
func TestResultsHaveNoRoom(t *testing.T) {
	for _, a := range edges() {
		for _, m := range edges() {
			for _, n := range results(padded(a, 3), []uint32{3}, padded(m, 1)) {
				if cap(n) != len(n) {
					t.Errorf("a result of %d limbs has room for %d", len(n), cap(n))
				}
			}
		}
	}
}

func TestOneSliceAsAllArguments(t *testing.T) {
	for _, n := range edges() {
		if len(n) == 0 || len(n) > 4 {
			continue
		}
		a := slices.Clone(n)
		isDivided(t, a, a)
		isPower(t, a, a, a)
		product, _ := modulo.Mul(a, a, a)
		isSlice(t, "the remainder of a square", product, nil)
		isSlice(t, "the argument", a, n)
	}
}
