package octet_test

import (
	"bytes"
	"encoding/hex"
	"math"
	"math/big"
	"math/rand"
	"slices"
	"testing"

	"lanyard/octet"
)

// edgeNumbers are 0, the greatest number, and what lies around each border between two numbers of bytes.
func edgeNumbers() []uint64 {
	l := []uint64{0, 1, 2, 9, 10, 127, 128, 0x0102030405060708, math.MaxUint64 - 1, math.MaxUint64}
	for shift := 8; shift < 64; shift += 8 {
		border := uint64(1) << shift
		l = append(l, border-1, border, border+1)
	}
	return l
}

// randomSlices are the same ones in every run.
func randomSlices(seed int64, many, most int) [][]byte {
	r := rand.New(rand.NewSource(seed))
	l := make([][]byte, many)
	for i := range l {
		l[i] = make([]byte, r.Intn(most+1))
		r.Read(l[i])
	}
	return l
}

func bytesNeeded(n uint64) int {
	return (new(big.Int).SetUint64(n).BitLen() + 7) / 8
}

// P1.1

func TestHexOfEveryByte(t *testing.T) {
	for v := range 256 {
		b := []byte{byte(v)}
		want := string([]byte{"0123456789abcdef"[v/16], "0123456789abcdef"[v%16]})
		if got := octet.Hex(b); got != want {
			t.Errorf("Hex(%d) = %q, want %q", v, got, want)
		}
		if got, ok := octet.Unhex(want); !ok || !bytes.Equal(got, b) {
			t.Errorf("Unhex(%q) = %v, %v", want, got, ok)
		}
	}
}

func TestHexOfMore(t *testing.T) {
	for _, c := range []struct {
		b    []byte
		text string
	}{
		{nil, ""},
		{[]byte{}, ""},
		{[]byte{0, 255}, "00ff"},
		{[]byte{0, 0, 0}, "000000"},
		{[]byte{0x0a, 0xa0, 0x9f, 0xf9}, "0aa09ff9"},
		{[]byte{1, 0x23, 0x45, 0x67, 0x89, 0xab, 0xcd, 0xef}, "0123456789abcdef"},
	} {
		if got := octet.Hex(c.b); got != c.text {
			t.Errorf("Hex(%v) = %q, want %q", c.b, got, c.text)
		}
		if got, ok := octet.Unhex(c.text); !ok || !bytes.Equal(got, c.b) {
			t.Errorf("Unhex(%q) = %v, %v, want %v, true", c.text, got, ok, c.b)
		}
	}
}

func TestHexOfLongSlices(t *testing.T) {
	for _, b := range randomSlices(1, 200, 3000) {
		if got, want := octet.Hex(b), hex.EncodeToString(b); got != want {
			t.Fatalf("Hex of %d bytes differs", len(b))
		}
	}
}

func TestUnhexTakesOnlyLowerCaseDigits(t *testing.T) {
	for v := range 256 {
		isDigit := '0' <= v && v <= '9' || 'a' <= v && v <= 'f'
		first, second := string([]byte{byte(v), '0'}), string([]byte{'0', byte(v)})
		for _, s := range []string{first, second, "00" + first, second + "ff"} {
			b, ok := octet.Unhex(s)
			if ok != isDigit {
				t.Errorf("Unhex(%q) is %v", s, ok)
			}
			if !ok && b != nil {
				t.Errorf("Unhex(%q) = %v beside false", s, b)
			}
		}
	}
}

func TestUnhexRefusesWhatIsNoHex(t *testing.T) {
	for _, s := range []string{"0", "000", "00f", "f", "0F", "FF", "aB", "Ab", "0x00", "00 ", " 00", "0 0 ", "00\n0", "-1", "+1", "gg", "\x00\x00", "\xff\xff", "é", "０"} {
		if b, ok := octet.Unhex(s); ok || b != nil {
			t.Errorf("Unhex(%q) = %v, %v", s, b, ok)
		}
	}
}

// P1.2

func TestNum(t *testing.T) {
	for _, c := range []struct {
		b    []byte
		want uint64
		ok   bool
	}{
		{nil, 0, true},
		{[]byte{}, 0, true},
		{[]byte{0}, 0, true},
		{[]byte{255}, 255, true},
		{[]byte{1, 0}, 256, true},
		{[]byte{1, 2, 3, 4, 5, 6, 7, 8}, 0x0102030405060708, true},
		{bytes.Repeat([]byte{255}, 8), math.MaxUint64, true},
		{append(make([]byte, 100), bytes.Repeat([]byte{255}, 8)...), math.MaxUint64, true},
		{make([]byte, 1000), 0, true},
		{append(make([]byte, 1000), 7), 7, true},
		{[]byte{1, 0, 0, 0, 0, 0, 0, 0, 0}, 0, false},
		{append(make([]byte, 50), 1, 0, 0, 0, 0, 0, 0, 0, 0), 0, false},
		{bytes.Repeat([]byte{255}, 9), 0, false},
		{append([]byte{1}, make([]byte, 15)...), 0, false},
		{append([]byte{1}, make([]byte, 16)...), 0, false},
		{append([]byte{128}, make([]byte, 999)...), 0, false},
	} {
		if got, ok := octet.Num(c.b); got != c.want || ok != c.ok {
			t.Errorf("Num(%v) = %d, %v, want %d, %v", c.b, got, ok, c.want, c.ok)
		}
	}
}

func TestNumAgainstBigIntegers(t *testing.T) {
	for _, b := range randomSlices(2, 3000, 11) {
		for i := range min(len(b), 3) { // so that many have noughts ahead
			if b[i]&1 == 0 {
				b[i] = 0
			}
		}
		want := new(big.Int).SetBytes(b)
		got, ok := octet.Num(b)
		if ok != want.IsUint64() {
			t.Fatalf("Num(%v) is %v", b, ok)
		}
		if ok && got != want.Uint64() || !ok && got != 0 {
			t.Fatalf("Num(%v) = %d, want %v", b, got, want)
		}
	}
}

func TestBytes(t *testing.T) {
	for _, c := range []struct {
		n    uint64
		many int
		want []byte
	}{
		{0, 0, []byte{}},
		{0, 1, []byte{0}},
		{0, 3, []byte{0, 0, 0}},
		{255, 1, []byte{255}},
		{256, 2, []byte{1, 0}},
		{256, 3, []byte{0, 1, 0}},
		{0x0102030405060708, 8, []byte{1, 2, 3, 4, 5, 6, 7, 8}},
		{0x0102030405060708, 10, []byte{0, 0, 1, 2, 3, 4, 5, 6, 7, 8}},
		{math.MaxUint64, 8, bytes.Repeat([]byte{255}, 8)},
		{math.MaxUint64, 64, append(make([]byte, 56), bytes.Repeat([]byte{255}, 8)...)},
	} {
		if got, ok := octet.Bytes(c.n, c.many); !ok || !bytes.Equal(got, c.want) {
			t.Errorf("Bytes(%d, %d) = %v, %v, want %v", c.n, c.many, got, ok, c.want)
		}
	}
}

func TestBytesForEveryLength(t *testing.T) {
	for _, n := range edgeNumbers() {
		for many := -3; many <= 70; many++ {
			b, ok := octet.Bytes(n, many)
			if want := many >= bytesNeeded(n) && many >= 0 && many <= 64; ok != want {
				t.Fatalf("Bytes(%d, %d) is %v", n, many, ok)
			}
			if !ok && b != nil {
				t.Fatalf("Bytes(%d, %d) = %v beside false", n, many, b)
			}
			if ok && !bytes.Equal(b, new(big.Int).SetUint64(n).FillBytes(make([]byte, many))) {
				t.Fatalf("Bytes(%d, %d) = %v", n, many, b)
			}
		}
	}
}

func TestBytesRefusesLengthsOutOfRange(t *testing.T) {
	for _, many := range []int{math.MinInt, math.MinInt32, -64, -1, 65, 128, 256, math.MaxInt32, math.MaxInt} {
		for _, n := range []uint64{0, 1, math.MaxUint64} {
			if b, ok := octet.Bytes(n, many); ok || b != nil {
				t.Errorf("Bytes(%d, %d) = %v, %v", n, many, b, ok)
			}
		}
	}
}

func TestLeast(t *testing.T) {
	for _, n := range edgeNumbers() {
		want := new(big.Int).SetUint64(n).Bytes()
		if n == 0 {
			want = []byte{0}
		}
		got := octet.Least(n)
		if !bytes.Equal(got, want) {
			t.Errorf("Least(%d) = %v, want %v", n, got, want)
		}
		if back, ok := octet.Num(got); !ok || back != n {
			t.Errorf("Num(Least(%d)) = %d, %v", n, back, ok)
		}
	}
}

// P1.3

func TestCmp(t *testing.T) {
	// Each one is less than all that follow it.
	rising := [][]byte{
		{}, {0}, {0, 0}, {0, 0, 255}, {0, 1}, {1}, {1, 0}, {1, 0, 0}, {1, 9}, {2},
		{127}, {127, 255}, {128}, {128, 0}, {255}, {255, 0}, {255, 255}, {255, 255, 0},
	}
	for i, a := range rising {
		for j, b := range rising {
			want := 0
			if i < j {
				want = -1
			} else if i > j {
				want = 1
			}
			if got := octet.Cmp(a, b); got != want {
				t.Errorf("Cmp(%v, %v) = %d, want %d", a, b, got, want)
			}
		}
	}
}

func TestCmpTakesNilAsEmpty(t *testing.T) {
	if octet.Cmp(nil, nil) != 0 || octet.Cmp(nil, []byte{}) != 0 || octet.Cmp([]byte{}, nil) != 0 {
		t.Error("nil and empty differ")
	}
	if octet.Cmp(nil, []byte{0}) != -1 || octet.Cmp([]byte{0}, nil) != 1 {
		t.Error("nil is not the least")
	}
}

func TestCmpOfRandomSlices(t *testing.T) {
	l := randomSlices(3, 120, 40)
	for _, a := range slices.Clone(l) {
		l = append(l, a[:len(a)/2])
	}
	for _, a := range l {
		for _, b := range l {
			if got, want := octet.Cmp(a, b), bytes.Compare(a, b); got != want {
				t.Fatalf("Cmp(%v, %v) = %d, want %d", a, b, got, want)
			}
		}
	}
}

// P1.4

func TestHexAndUnhexAreInverse(t *testing.T) {
	for _, b := range randomSlices(4, 300, 200) {
		s := octet.Hex(b)
		back, ok := octet.Unhex(s)
		if !ok || !bytes.Equal(back, b) {
			t.Fatalf("Unhex(Hex(%v)) = %v, %v", b, back, ok)
		}
		if octet.Hex(back) != s {
			t.Fatalf("Hex(Unhex(%q)) differs", s)
		}
	}
}

func TestWhatUnhexTakesHexWrites(t *testing.T) {
	signs := "/09:@AFG`afg \x00\xff"
	for i := range len(signs) {
		for j := range len(signs) {
			s := string([]byte{signs[i], signs[j]})
			if b, ok := octet.Unhex(s); ok && octet.Hex(b) != s {
				t.Errorf("Hex(Unhex(%q)) = %q", s, octet.Hex(b))
			}
		}
	}
}

func TestNumAndBytesAreInverse(t *testing.T) {
	for _, n := range edgeNumbers() {
		for many := bytesNeeded(n); many <= 64; many++ {
			b, ok := octet.Bytes(n, many)
			if !ok || len(b) != many {
				t.Fatalf("Bytes(%d, %d) = %v, %v", n, many, b, ok)
			}
			if back, ok := octet.Num(b); !ok || back != n {
				t.Fatalf("Num(Bytes(%d, %d)) = %d, %v", n, many, back, ok)
			}
		}
	}
	for _, b := range randomSlices(5, 1000, 8) {
		n, ok := octet.Num(b)
		if !ok {
			t.Fatalf("Num(%v) is false", b)
		}
		if back, ok := octet.Bytes(n, len(b)); !ok || !bytes.Equal(back, b) {
			t.Fatalf("Bytes(Num(%v)) = %v, %v", b, back, ok)
		}
	}
}

func TestCmpOrdersLikeNumbers(t *testing.T) {
	numbers := edgeNumbers()
	for many := 8; many <= 64; many += 7 {
		for _, m := range numbers {
			for _, n := range numbers {
				a, isA := octet.Bytes(m, many)
				b, isB := octet.Bytes(n, many)
				if !isA || !isB {
					t.Fatalf("Bytes(%d or %d, %d) is false", m, n, many)
				}
				want := new(big.Int).SetUint64(m).Cmp(new(big.Int).SetUint64(n))
				if got := octet.Cmp(a, b); got != want {
					t.Fatalf("Cmp of %d and %d in %d bytes = %d", m, n, many, got)
				}
			}
		}
	}
}

// R3

func TestArgumentsAreNeitherChangedNorKept(t *testing.T) {
	a, b := []byte{1, 2, 3}, []byte{1, 2, 4}
	s := octet.Hex(a)
	octet.Num(a)
	octet.Cmp(a, b)
	if !bytes.Equal(a, []byte{1, 2, 3}) || !bytes.Equal(b, []byte{1, 2, 4}) {
		t.Errorf("arguments became %v and %v", a, b)
	}
	a[0] = 9
	if s != "010203" {
		t.Errorf("the digits became %q with the bytes", s)
	}
}

func TestResultsBelongToTheCaller(t *testing.T) {
	for _, call := range []func() []byte{
		func() []byte { b, _ := octet.Unhex("0102"); return b },
		func() []byte { b, _ := octet.Bytes(258, 2); return b },
		func() []byte { return octet.Least(258) },
	} {
		first := call()
		first[0] = 77
		if second := call(); !bytes.Equal(second, []byte{1, 2}) {
			t.Errorf("the second result is %v", second)
		}
	}
}
