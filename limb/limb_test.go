package limb_test

import (
	"bytes"
	"math"
	"math/big"
	"math/rand"
	"slices"
	"testing"

	"lanyard/limb"
)

const most = math.MaxUint32

// number computes the number of n from its definition.
func number(n []uint32) *big.Int {
	sum := new(big.Int)
	for i, v := range n {
		part := new(big.Int).SetUint64(uint64(v))
		sum.Add(sum, part.Lsh(part, uint(32*i)))
	}
	return sum
}

// limbsOf returns the normalized slice with the number v.
func limbsOf(v *big.Int) []uint32 {
	var n []uint32
	mask := new(big.Int).SetUint64(most)
	for rest := new(big.Int).Set(v); rest.Sign() > 0; rest.Rsh(rest, 32) {
		n = append(n, uint32(new(big.Int).And(rest, mask).Uint64()))
	}
	return n
}

// padded returns n with zero limbs behind it, so that it is not normalized.
func padded(n []uint32, zeros int) []uint32 {
	return slices.Concat(n, make([]uint32, zeros))
}

// power returns 2 to the power of bit.
func power(bit int) []uint32 {
	n := make([]uint32, bit/32+1)
	n[bit/32] = 1 << (bit % 32)
	return n
}

func filled(value uint32, size int) []uint32 {
	return slices.Repeat([]uint32{value}, size)
}

// edges are normalized slices at which carries begin, end, or pass through many limbs.
func edges() [][]uint32 {
	l := [][]uint32{
		{}, {1}, {2}, {1 << 16}, {1<<31 - 1}, {1 << 31}, {most - 1}, {most},
		{0, 1}, {1, 1}, {most, 1}, {0, most}, {1, most}, {most, most}, {most - 1, most}, {most, most - 1},
		{0, 0, 1}, {1, 0, 1}, {0, most, 1}, {most, 0, most}, {0, most, most}, {most, most, most},
		{0, 1 << 31}, {1 << 31, 1 << 31}, {0, 0, 0, 1}, {1, 0, 0, most},
		{0x89abcdef, 0x01234567}, {0x33221100, 0x77665544, 0xbbaa9988, 0xffeeddcc},
	}
	for _, size := range []int{4, 5, 17} {
		l = append(l, filled(most, size), power(32*size), power(32*size-1), filled(1, size))
	}
	return l
}

// withRandom returns the edges, and many others of up to size limbs. They are the same ones in every run.
func withRandom(seed int64, many, size int) [][]uint32 {
	r := rand.New(rand.NewSource(seed))
	l := edges()
	for range many {
		n := make([]uint32, r.Intn(size+1))
		for i := range n {
			switch r.Intn(4) {
			case 0:
				n[i] = most
			case 1: // left 0
			default:
				n[i] = r.Uint32()
			}
		}
		l = append(l, limbsOf(number(n)))
	}
	return l
}

// isNumber holds n, which need not be nil to be 0, against the normalized slice with the number want.
func isNumber(t *testing.T, name string, n []uint32, want *big.Int) {
	t.Helper()
	if !slices.Equal(n, limbsOf(want)) {
		t.Errorf("%s is %v, want %v", name, n, limbsOf(want))
	}
}

func isSlice(t *testing.T, name string, n, want []uint32) {
	t.Helper()
	if !slices.Equal(n, want) {
		t.Errorf("%s is %v, want %v", name, n, want)
	}
}

func isBytes(t *testing.T, name string, b, want []byte) {
	t.Helper()
	if !bytes.Equal(b, want) {
		t.Errorf("%s is %v, want %v", name, b, want)
	}
}

func isInt(t *testing.T, name string, n, want int) {
	t.Helper()
	if n != want {
		t.Errorf("%s is %d, want %d", name, n, want)
	}
}

// forms returns slices with the number of n, of which all but the first are not normalized.
func forms(n []uint32) [][]uint32 {
	return [][]uint32{n, padded(n, 1), padded(n, 2), padded(n, 20)}
}

// P7.1

func TestBare(t *testing.T) {
	for _, c := range []struct{ n, want []uint32 }{
		{nil, nil},
		{[]uint32{}, nil},
		{[]uint32{0}, nil},
		{[]uint32{0, 0, 0}, nil},
		{[]uint32{5}, []uint32{5}},
		{[]uint32{5, 0}, []uint32{5}},
		{[]uint32{0, 5}, []uint32{0, 5}},
		{[]uint32{0, 0, 5, 0, 0}, []uint32{0, 0, 5}},
		{[]uint32{1, 0, 2, 0}, []uint32{1, 0, 2}},
		{[]uint32{most, 1 << 31, 0}, []uint32{most, 1 << 31}},
	} {
		isSlice(t, "Bare", limb.Bare(c.n), c.want)
	}
	for _, n := range withRandom(1, 200, 20) {
		for _, form := range forms(n) {
			isSlice(t, "Bare", limb.Bare(form), n)
		}
	}
}

func TestFrom(t *testing.T) {
	for _, c := range []struct {
		b    []byte
		want []uint32
	}{
		{nil, nil},
		{[]byte{}, nil},
		{[]byte{0}, nil},
		{make([]byte, 9), nil},
		{[]byte{1}, []uint32{1}},
		{[]byte{255}, []uint32{255}},
		{[]byte{1, 0}, []uint32{256}},
		{[]byte{1, 2, 3}, []uint32{0x010203}},
		{[]byte{1, 2, 3, 4}, []uint32{0x01020304}},
		{[]byte{255, 255, 255, 255}, []uint32{most}},
		{[]byte{1, 0, 0, 0, 0}, []uint32{0, 1}},
		{[]byte{1, 2, 3, 4, 5}, []uint32{0x02030405, 1}},
		{[]byte{128, 2, 3, 4, 5, 6, 7, 8, 9}, []uint32{0x06070809, 0x02030405, 128}},
		{[]byte{0, 0, 0, 0, 0, 7}, []uint32{7}},
		{[]byte{0, 1, 2, 3, 4}, []uint32{0x01020304}},
	} {
		isSlice(t, "From", limb.From(c.b), c.want)
	}
}

func TestFromOfEveryNumberOfBytes(t *testing.T) {
	r := rand.New(rand.NewSource(2))
	for size := range 70 {
		for range 20 {
			b := make([]byte, size)
			r.Read(b)
			want := new(big.Int).SetBytes(b)
			isNumber(t, "From", limb.From(b), want)
			for zeros := range 9 {
				isNumber(t, "From with leading zeros", limb.From(slices.Concat(make([]byte, zeros), b)), want)
			}
		}
		isNumber(t, "From of ones", limb.From(bytes.Repeat([]byte{255}, size)), new(big.Int).SetBytes(bytes.Repeat([]byte{255}, size)))
		isSlice(t, "From of zeros", limb.From(make([]byte, size)), nil)
	}
}

func TestTo(t *testing.T) {
	for _, c := range []struct {
		n    []uint32
		want []byte
	}{
		{nil, nil},
		{[]uint32{}, nil},
		{[]uint32{0}, nil},
		{[]uint32{0, 0, 0}, nil},
		{[]uint32{1}, []byte{1}},
		{[]uint32{255}, []byte{255}},
		{[]uint32{256}, []byte{1, 0}},
		{[]uint32{65535}, []byte{255, 255}},
		{[]uint32{65536}, []byte{1, 0, 0}},
		{[]uint32{1 << 24}, []byte{1, 0, 0, 0}},
		{[]uint32{most}, []byte{255, 255, 255, 255}},
		{[]uint32{0, 1}, []byte{1, 0, 0, 0, 0}},
		{[]uint32{0x02030405, 1}, []byte{1, 2, 3, 4, 5}},
		{[]uint32{0x06070809, 0x02030405, 128, 0, 0}, []byte{128, 2, 3, 4, 5, 6, 7, 8, 9}},
	} {
		isBytes(t, "To", limb.To(c.n), c.want)
	}
	for _, n := range withRandom(3, 500, 20) {
		for _, form := range forms(n) {
			isBytes(t, "To", limb.To(form), number(n).Bytes())
		}
	}
}

func TestToOfEveryNumberOfBits(t *testing.T) {
	for bit := range 300 {
		n := power(bit)
		isBytes(t, "To of a power of 2", limb.To(n), number(n).Bytes())
		less := new(big.Int).Sub(number(n), big.NewInt(1))
		isBytes(t, "To of one less", limb.To(limbsOf(less)), less.Bytes())
	}
}

// P7.2

func TestCmp(t *testing.T) {
	for _, c := range []struct {
		a, b []uint32
		want int
	}{
		{nil, nil, 0},
		{nil, []uint32{}, 0},
		{nil, []uint32{0, 0}, 0},
		{[]uint32{0}, []uint32{0, 0}, 0},
		{[]uint32{7}, []uint32{7, 0}, 0},
		{nil, []uint32{1}, -1},
		{[]uint32{0, 0, 0}, []uint32{1}, -1},
		{[]uint32{9, 0, 0}, []uint32{3, 1}, -1},
		{[]uint32{1, 2}, []uint32{2, 1}, 1},
		{[]uint32{1, 2}, []uint32{2, 2}, -1},
		{[]uint32{0, 1}, []uint32{most}, 1},
		{[]uint32{1 << 31}, []uint32{1}, 1},
		{[]uint32{most}, []uint32{1<<31 - 1}, 1},
		{[]uint32{5, 6, 7}, []uint32{5, 6, 7}, 0},
		{[]uint32{5, 5, 7}, []uint32{5, 6, 7}, -1},
	} {
		isInt(t, "Cmp", limb.Cmp(c.a, c.b), c.want)
		isInt(t, "Cmp of the two exchanged", limb.Cmp(c.b, c.a), -c.want)
	}
}

func TestCmpOfAllPairs(t *testing.T) {
	l := withRandom(4, 60, 6)
	for _, a := range l {
		for _, b := range l {
			want := number(a).Cmp(number(b))
			for _, form := range forms(b) {
				isInt(t, "Cmp", limb.Cmp(a, form), want)
				isInt(t, "Cmp", limb.Cmp(padded(a, 3), form), want)
			}
		}
	}
}

func TestCmpOfNeighbours(t *testing.T) {
	for _, n := range withRandom(5, 100, 10) {
		next := limbsOf(new(big.Int).Add(number(n), big.NewInt(1)))
		isInt(t, "Cmp with itself", limb.Cmp(n, slices.Clone(n)), 0)
		isInt(t, "Cmp with the next number", limb.Cmp(n, next), -1)
		isInt(t, "Cmp with the number before", limb.Cmp(next, n), 1)
	}
}

func TestLen(t *testing.T) {
	for _, c := range []struct {
		n    []uint32
		want int
	}{
		{nil, 0},
		{[]uint32{}, 0},
		{[]uint32{0, 0, 0}, 0},
		{[]uint32{1}, 1},
		{[]uint32{2}, 2},
		{[]uint32{3}, 2},
		{[]uint32{255}, 8},
		{[]uint32{256}, 9},
		{[]uint32{most}, 32},
		{[]uint32{0, 1}, 33},
		{[]uint32{most, 1}, 33},
		{[]uint32{0, most}, 64},
		{[]uint32{0, 4, 0, 0}, 35},
	} {
		isInt(t, "Len", limb.Len(c.n), c.want)
	}
	for bit := range 300 {
		n := power(bit)
		less := limbsOf(new(big.Int).Sub(number(n), big.NewInt(1)))
		for i, form := range forms(n) {
			isInt(t, "Len of a power of 2", limb.Len(form), bit+1)
			isInt(t, "Len of one less", limb.Len(forms(less)[i]), bit)
		}
	}
	for _, n := range withRandom(6, 200, 20) {
		isInt(t, "Len", limb.Len(n), number(n).BitLen())
	}
}

// P7.3

func TestAdd(t *testing.T) {
	for _, c := range []struct{ a, b, want []uint32 }{
		{nil, nil, nil},
		{nil, []uint32{0, 0}, nil},
		{nil, []uint32{1}, []uint32{1}},
		{[]uint32{2}, []uint32{3}, []uint32{5}},
		{[]uint32{most}, []uint32{1}, []uint32{0, 1}},
		{[]uint32{most}, []uint32{most}, []uint32{most - 1, 1}},
		{[]uint32{most, most, most}, []uint32{1}, []uint32{0, 0, 0, 1}},
		{[]uint32{most, most, 5, most}, []uint32{1}, []uint32{0, 0, 6, most}},
		{[]uint32{0, 0, 5}, []uint32{7}, []uint32{7, 0, 5}},
		{[]uint32{1, 0, 0, 0}, []uint32{1}, []uint32{2}},
		{[]uint32{most, 0, 0}, []uint32{1, 0, 0, 0}, []uint32{0, 1}},
	} {
		isSlice(t, "Add", limb.Add(c.a, c.b), c.want)
		isSlice(t, "Add of the two exchanged", limb.Add(c.b, c.a), c.want)
	}
}

func TestSub(t *testing.T) {
	for _, c := range []struct{ a, b, want []uint32 }{
		{nil, nil, nil},
		{[]uint32{0, 0}, []uint32{0, 0, 0}, nil},
		{[]uint32{1}, nil, []uint32{1}},
		{[]uint32{5}, []uint32{3}, []uint32{2}},
		{[]uint32{5}, []uint32{5}, nil},
		{[]uint32{5, 6, 7}, []uint32{5, 6, 7}, nil},
		{[]uint32{0, 1}, []uint32{1}, []uint32{most}},
		{[]uint32{0, 0, 0, 1}, []uint32{1}, []uint32{most, most, most}},
		{[]uint32{0, 0, 6, 9}, []uint32{1}, []uint32{most, most, 5, 9}},
		{[]uint32{0, 3}, []uint32{1, 2}, []uint32{most}},
		{[]uint32{8, 6, 7}, []uint32{5, 6, 7}, []uint32{3}},
		{[]uint32{5}, []uint32{3, 0, 0, 0}, []uint32{2}},
		{[]uint32{5, 0, 0}, []uint32{3}, []uint32{2}},
	} {
		got, is := limb.Sub(c.a, c.b)
		if !is {
			t.Errorf("Sub of %v and %v is false", c.a, c.b)
		}
		isSlice(t, "Sub", got, c.want)
	}
}

func TestSubOfGreater(t *testing.T) {
	for _, c := range []struct{ a, b []uint32 }{
		{nil, []uint32{1}},
		{[]uint32{0, 0, 0}, []uint32{1}},
		{[]uint32{4}, []uint32{5}},
		{[]uint32{most}, []uint32{0, 1}},
		{[]uint32{most, 0, 0}, []uint32{0, 1}},
		{[]uint32{5, 6}, []uint32{6, 6}},
		{[]uint32{6, 5}, []uint32{5, 6}},
	} {
		isNoDifference(t, c.a, c.b)
	}
	for _, n := range withRandom(7, 200, 20) {
		isNoDifference(t, n, limbsOf(new(big.Int).Add(number(n), big.NewInt(1))))
	}
}

func isNoDifference(t *testing.T, a, b []uint32) {
	t.Helper()
	if got, is := limb.Sub(a, b); is || got != nil {
		t.Errorf("Sub of %v and %v is %v and %t, want nil and false", a, b, got, is)
	}
}

func TestMul(t *testing.T) {
	for _, c := range []struct{ a, b, want []uint32 }{
		{nil, nil, nil},
		{nil, []uint32{5}, nil},
		{[]uint32{0, 0}, []uint32{5, 6, 7}, nil},
		{[]uint32{1}, []uint32{5, 6, 7}, []uint32{5, 6, 7}},
		{[]uint32{2}, []uint32{3}, []uint32{6}},
		{[]uint32{most}, []uint32{most}, []uint32{1, most - 1}},
		{[]uint32{0, 1}, []uint32{5}, []uint32{0, 5}},
		{[]uint32{0, 1}, []uint32{0, 0, 7}, []uint32{0, 0, 0, 7}},
		{[]uint32{1 << 16}, []uint32{1 << 16}, []uint32{0, 1}},
		{[]uint32{most, most}, []uint32{most, most}, []uint32{1, 0, most - 1, most}},
		{[]uint32{3, 0, 0}, []uint32{4, 0}, []uint32{12}},
	} {
		isSlice(t, "Mul", limb.Mul(c.a, c.b), c.want)
		isSlice(t, "Mul of the two exchanged", limb.Mul(c.b, c.a), c.want)
	}
}

func TestAllPairs(t *testing.T) {
	l := withRandom(8, 100, 12)
	for _, a := range l {
		for _, b := range l {
			isCalculated(t, a, b)
			isCalculated(t, padded(a, 3), b)
			isCalculated(t, a, padded(b, 5))
			isCalculated(t, padded(a, 2), padded(b, 2))
		}
	}
}

func TestLongNumbers(t *testing.T) {
	r := rand.New(rand.NewSource(9))
	for range 20 {
		var pair [2][]uint32
		for i := range pair {
			b := make([]byte, r.Intn(8000))
			r.Read(b)
			pair[i] = limb.From(b)
			isNumber(t, "From", pair[i], new(big.Int).SetBytes(b))
			isBytes(t, "To", limb.To(pair[i]), bytes.TrimLeft(b, "\x00"))
		}
		isCalculated(t, pair[0], pair[1])
	}
	for _, size := range []int{1000, 1001, 2000} {
		isCalculated(t, filled(most, size), []uint32{1})
		isCalculated(t, filled(most, size), filled(most, 999))
		isCalculated(t, power(32*size), []uint32{1})
	}
}

// isCalculated holds the sum, the product and the difference of a and b against those of the Go library.
func isCalculated(t *testing.T, a, b []uint32) {
	t.Helper()
	x, y := number(a), number(b)
	isNumber(t, "Add", limb.Add(a, b), new(big.Int).Add(x, y))
	isNumber(t, "Mul", limb.Mul(a, b), new(big.Int).Mul(x, y))
	if x.Cmp(y) < 0 {
		isNoDifference(t, a, b)
		return
	}
	difference, is := limb.Sub(a, b)
	if !is {
		t.Errorf("Sub of %v and %v is false", a, b)
	}
	isNumber(t, "Sub", difference, new(big.Int).Sub(x, y))
}

// P7.4

func TestLawsOfTwo(t *testing.T) {
	l := withRandom(10, 100, 12)
	for _, a := range l {
		for _, b := range l {
			sum := limb.Add(a, b)
			isSlice(t, "a sum of exchanged numbers", limb.Add(b, a), sum)
			isSlice(t, "a product of exchanged numbers", limb.Mul(b, a), limb.Mul(a, b))
			for _, part := range [][2][]uint32{{a, b}, {b, a}} {
				back, is := limb.Sub(sum, part[0])
				if !is {
					t.Errorf("a sum is less than %v", part[0])
				}
				isSlice(t, "a sum less one of its parts", back, part[1])
			}
			if difference, is := limb.Sub(a, b); is {
				isSlice(t, "a difference and what was subtracted", limb.Add(difference, b), a)
			}
			_, is := limb.Sub(a, b)
			if is != (limb.Cmp(a, b) >= 0) {
				t.Errorf("Sub and Cmp of %v and %v do not agree", a, b)
			}
		}
	}
}

func TestLawsOfThree(t *testing.T) {
	l := withRandom(11, 25, 6)
	for _, a := range l {
		for _, b := range l {
			for _, c := range l {
				isSlice(t, "a sum of three", limb.Add(limb.Add(a, b), c), limb.Add(a, limb.Add(b, c)))
				isSlice(t, "a product of three", limb.Mul(limb.Mul(a, b), c), limb.Mul(a, limb.Mul(b, c)))
				isSlice(t, "a product with a sum", limb.Mul(a, limb.Add(b, c)), limb.Add(limb.Mul(a, b), limb.Mul(a, c)))
			}
		}
	}
}

func TestZeroAndOne(t *testing.T) {
	for _, n := range withRandom(12, 200, 20) {
		for _, form := range forms(n) {
			isSlice(t, "the sum with 0", limb.Add(form, nil), n)
			isSlice(t, "the product with 0", limb.Mul(form, nil), nil)
			isSlice(t, "the product with 1", limb.Mul(form, []uint32{1}), n)
			difference, is := limb.Sub(form, n)
			if !is {
				t.Errorf("%v is less than %v", form, n)
			}
			isSlice(t, "the difference of equal numbers", difference, nil)
		}
	}
}

func TestFromAndToAreInverse(t *testing.T) {
	for _, n := range withRandom(13, 500, 20) {
		isSlice(t, "From of To", limb.From(limb.To(n)), n)
		isSlice(t, "From of To", limb.From(limb.To(padded(n, 4))), n)
	}
	for v := range 1 << 16 {
		b := bytes.TrimLeft([]byte{byte(v >> 8), byte(v)}, "\x00")
		isBytes(t, "To of From", limb.To(limb.From(b)), b)
	}
	r := rand.New(rand.NewSource(14))
	for size := range 100 {
		b := make([]byte, size)
		r.Read(b)
		least := bytes.TrimLeft(b, "\x00")
		isBytes(t, "To of From", limb.To(limb.From(b)), least)
		isBytes(t, "To of From with leading zeros", limb.To(limb.From(slices.Concat(make([]byte, 5), b))), least)
	}
}

// R3 and R4

// results returns every result that a and b have.
func results(a, b []uint32) [][]uint32 {
	difference, _ := limb.Sub(a, b)
	return [][]uint32{limb.Bare(a), limb.Add(a, b), difference, limb.Mul(a, b), limb.From(limb.To(a))}
}

// inRoom returns n with limbs behind it that it could grow into.
func inRoom(n []uint32) []uint32 {
	return slices.Concat(n, filled(77, 40))[:len(n)]
}

func TestArgumentsAreNeitherChangedNorShared(t *testing.T) {
	l := [][]uint32{nil, {0, 0}, {7}, {7, 0}, {0, 1}, {most, most}, {most, 0, 0}, {1, 2, 3}, {1, 2, 3, 0}}
	for _, first := range l {
		for _, second := range l {
			a, b := inRoom(first), inRoom(second)
			isInt(t, "Cmp", limb.Cmp(a, b), number(first).Cmp(number(second)))
			isInt(t, "Len", limb.Len(a), number(first).BitLen())
			got, want := results(a, b), results(first, second)
			isSlice(t, "the first argument, and what is behind it,", a[:cap(a)][:len(first)+40], slices.Concat(first, filled(77, 40)))
			isSlice(t, "the second argument, and what is behind it,", b[:cap(b)][:len(second)+40], slices.Concat(second, filled(77, 40)))
			clear(a[:cap(a)])
			clear(b[:cap(b)])
			for i := range got {
				isSlice(t, "a result, after the arguments were cleared,", got[i], want[i])
				clear(got[i][:cap(got[i])])
			}
			for i, n := range results(first, second) {
				isSlice(t, "a later result", n, want[i])
			}
		}
	}
}

func TestResultsDoNotReachTheArguments(t *testing.T) {
	for _, n := range edges() {
		for _, form := range forms(n) {
			for _, result := range [][][]uint32{results(form, nil), results(nil, form), results(form, form)} {
				for _, r := range result {
					clear(append(r, 1))
					clear(r)
				}
			}
			isSlice(t, "an argument", limb.Bare(form), n)
		}
	}
}

// Results have no room behind them: what is appended to one must not land in memory that another slice has.
func TestResultsHaveNoRoom(t *testing.T) {
	l := edges()
	for _, a := range l {
		for _, b := range l {
			for _, n := range results(padded(a, 3), padded(b, 1)) {
				if cap(n) != len(n) {
					t.Errorf("a result of %d limbs has room for %d", len(n), cap(n))
				}
			}
		}
	}
}

func TestFromAndToShareNothing(t *testing.T) {
	b := []byte{0, 1, 2, 3, 4, 5, 6, 7, 8}
	n := limb.From(b)
	isBytes(t, "the argument of From", b, []byte{0, 1, 2, 3, 4, 5, 6, 7, 8})
	clear(b)
	isSlice(t, "From, after its argument was cleared,", n, []uint32{0x05060708, 0x01020304})
	least := limb.To(n)
	isSlice(t, "the argument of To", n, []uint32{0x05060708, 0x01020304})
	clear(n)
	isBytes(t, "To, after its argument was cleared,", least, []byte{1, 2, 3, 4, 5, 6, 7, 8})
}

func TestOneSliceAsBothArguments(t *testing.T) {
	for _, n := range edges() {
		a := slices.Clone(n)
		isCalculated(t, a, a)
		isInt(t, "Cmp with itself", limb.Cmp(a, a), 0)
		isSlice(t, "the argument", a, n)
	}
}
