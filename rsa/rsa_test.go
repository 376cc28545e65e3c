package rsa_test

import (
	"bytes"
	"crypto"
	stdrsa "crypto/rsa"
	"crypto/sha256"
	"encoding/hex"
	"math"
	"math/big"
	"math/rand"
	"slices"
	"testing"

	"lanyard/api"
	"lanyard/rsa"
)

const (
	least = 62
	most  = 512
)

// bytesOf returns the bytes of hexadecimal digits.
func bytesOf(digits string) []byte {
	b, e := hex.DecodeString(digits)
	if e != nil {
		panic(e)
	}
	return b
}

// randomBytes are the same ones in every run.
func randomBytes(seed int64, size int) []byte {
	b := make([]byte, size)
	rand.New(rand.NewSource(seed)).Read(b)
	return b
}

// modulusOf returns the bytes of a modulus that no one knows the primes of.
func modulusOf(seed int64, size int) []byte {
	n := randomBytes(seed, size)
	if size > 0 {
		n[0] |= 1
		n[size-1] |= 1
	}
	return n
}

// with returns b with another byte at i.
func with(b []byte, i int, value byte) []byte {
	b = slices.Clone(b)
	b[i] = value
	return b
}

func number(b []byte) *big.Int {
	return new(big.Int).SetBytes(b)
}

// wideBytes returns size bytes with the number v.
func wideBytes(v *big.Int, size int) []byte {
	return v.FillBytes(make([]byte, size))
}

// wantFrame is put together from what the standard writes.
func wantFrame(hash [32]byte, size int) []byte {
	beforeHash := bytesOf("3031300d060960864801650304020105000420")
	fill := bytes.Repeat([]byte{255}, size-54)
	return slices.Concat([]byte{0, 1}, fill, []byte{0}, beforeHash, hash[:])
}

// signer is a key with its secret.
type signer struct {
	key    api.Key
	secret *big.Int
}

// newSigner returns one whose modulus has size bytes: it is the product of eight primes of size bits each.
func newSigner(seed int64, size int, exponent uint32) signer {
	r := rand.New(rand.NewSource(seed))
	modulus, order := big.NewInt(1), big.NewInt(1)
	var primes []*big.Int
	for len(primes) < 8 {
		p := prime(r, size, exponent)
		if slices.ContainsFunc(primes, func(other *big.Int) bool { return other.Cmp(p) == 0 }) {
			continue
		}
		primes = append(primes, p)
		modulus.Mul(modulus, p)
		order.Mul(order, new(big.Int).Sub(p, big.NewInt(1)))
	}
	secret := new(big.Int).ModInverse(new(big.Int).SetUint64(uint64(exponent)), order)
	return signer{api.Key{N: modulus.Bytes(), E: exponent}, secret}
}

// prime returns one whose upper four bits are 1, so that the product of eight has all their bits, and that has a secret for the exponent.
func prime(r *rand.Rand, size int, exponent uint32) *big.Int {
	one := big.NewInt(1)
	for {
		p := new(big.Int).Rand(r, new(big.Int).Lsh(one, uint(size)))
		for bit := size - 4; bit < size; bit++ {
			p.SetBit(p, bit, 1)
		}
		p.SetBit(p, 0, 1)
		common := new(big.Int).GCD(nil, nil, new(big.Int).Sub(p, one), new(big.Int).SetUint64(uint64(exponent)))
		if common.Cmp(one) == 0 && p.ProbablyPrime(10) {
			return p
		}
	}
}

// raw returns the bytes whose Power are the number of power.
func (s signer) raw(power []byte) []byte {
	sig := new(big.Int).Exp(number(power), s.secret, number(s.key.N))
	return wideBytes(sig, len(s.key.N))
}

func (s signer) sign(text []byte) []byte {
	return s.raw(wantFrame(sha256.Sum256(text), len(s.key.N)))
}

// signers have moduli of the least and the greatest sizes and of some between, and different exponents.
func signers() []signer {
	return []signer{
		newSigner(1, least, 3), newSigner(2, least, math.MaxUint32), newSigner(3, 63, 65537), newSigner(4, 64, 17),
		newSigner(5, 65, 5), newSigner(6, 127, 65537), newSigner(7, 128, 3), newSigner(8, 131, 65537),
		newSigner(9, 256, 65537), newSigner(10, 511, 3), newSigner(11, most, 65537),
	}
}

// wrongKeys are keys that are not valid, each for one reason.
func wrongKeys() []api.Key {
	right := modulusOf(1, 100)
	l := []api.Key{
		{}, {N: []byte{}, E: 3}, {N: []byte{1}, E: 3}, {N: modulusOf(2, 61), E: 3}, {N: modulusOf(3, 513), E: 3},
		{N: modulusOf(4, 514), E: 3}, {N: modulusOf(5, 20000), E: 3},
		{N: with(right, 0, 0), E: 3}, {N: with(modulusOf(6, least), 0, 0), E: 3}, {N: with(modulusOf(7, most), 0, 0), E: 3},
		{N: slices.Concat([]byte{0}, modulusOf(8, least)), E: 3},
		{N: make([]byte, 100), E: 3},
	}
	for _, last := range []byte{0, 2, 128, 254} {
		l = append(l, api.Key{N: with(right, 99, last), E: 65537})
	}
	for _, exponent := range []uint32{0, 1, 2, 4, 6, 65536, 65538, 1 << 31, math.MaxUint32 - 1} {
		l = append(l, api.Key{N: right, E: exponent})
	}
	return l
}

func isError(t *testing.T, name string, got, want api.Errno) {
	t.Helper()
	if got != want {
		t.Errorf("%s: the error is %d, want %d", name, got, want)
	}
}

// P9.1

func TestRight(t *testing.T) {
	for _, size := range []int{62, 63, 64, 65, 127, 128, 200, 256, 384, 510, 511, 512} {
		for _, exponent := range []uint32{3, 5, 7, 9, 17, 257, 65535, 65537, 1<<31 - 1, 1<<31 + 1, math.MaxUint32} {
			if k := (api.Key{N: modulusOf(int64(size), size), E: exponent}); !rsa.Right(k) {
				t.Errorf("a key of %d bytes with exponent %d is not valid", size, exponent)
			}
		}
	}
}

func TestRightOfWrongKeys(t *testing.T) {
	for _, k := range wrongKeys() {
		if rsa.Right(k) {
			t.Errorf("the key %v is valid", k)
		}
	}
}

func TestRightOfEverySize(t *testing.T) {
	for size := range 1100 {
		if got, want := rsa.Right(api.Key{N: modulusOf(1, size), E: 3}), size >= least && size <= most; got != want {
			t.Errorf("Right of a key of %d bytes is %t", size, got)
		}
	}
}

func TestRightOfFirstAndLastBytes(t *testing.T) {
	for _, size := range []int{least, most} {
		n := modulusOf(2, size)
		for value := range 256 {
			if got, want := rsa.Right(api.Key{N: with(n, 0, byte(value)), E: 3}), value > 0; got != want {
				t.Errorf("Right of a key with the first byte %d is %t", value, got)
			}
			if got, want := rsa.Right(api.Key{N: with(n, size-1, byte(value)), E: 3}), value%2 == 1; got != want {
				t.Errorf("Right of a key with the last byte %d is %t", value, got)
			}
		}
	}
}

// Only the first and the last byte, and the number of bytes, matter: N need not be a product of primes.
func TestRightOfOtherBytes(t *testing.T) {
	for _, size := range []int{least, most} {
		n := make([]byte, size)
		n[0], n[size-1] = 1, 1
		if !rsa.Right(api.Key{N: n, E: 3}) || !rsa.Right(api.Key{N: bytes.Repeat([]byte{255}, size), E: 3}) {
			t.Errorf("a key of %d bytes is not valid", size)
		}
	}
}

func TestRightOfSmallExponents(t *testing.T) {
	n := modulusOf(3, 128)
	for exponent := range uint32(70000) {
		if got, want := rsa.Right(api.Key{N: n, E: exponent}), exponent >= 3 && exponent%2 == 1; got != want {
			t.Errorf("Right of a key with the exponent %d is %t", exponent, got)
		}
	}
}

func TestFrameOfLeastSize(t *testing.T) {
	var hash [32]byte
	want := []byte{0, 1, 255, 255, 255, 255, 255, 255, 255, 255, 0, 48, 49, 48, 13, 6, 9, 96, 134, 72, 1, 101, 3, 4, 2, 1, 5, 0, 4, 32}
	for i := range hash {
		hash[i] = byte(200 - i)
		want = append(want, byte(200-i))
	}
	if got, e := rsa.Frame(hash, 62); e != api.OK || !bytes.Equal(got, want) {
		t.Errorf("Frame is %v and %d, want %v", got, e, want)
	}
}

func TestFrameOfEverySize(t *testing.T) {
	for size := least; size <= most; size++ {
		for _, hash := range [][32]byte{{}, sha256.Sum256([]byte{byte(size)}), [32]byte(bytes.Repeat([]byte{255}, 32))} {
			got, e := rsa.Frame(hash, size)
			if e != api.OK || len(got) != size || !bytes.Equal(got, wantFrame(hash, size)) {
				t.Errorf("Frame of %x and %d is %x and %d", hash, size, got, e)
			}
		}
	}
}

func TestFrameOfWrongSizes(t *testing.T) {
	l := []int{math.MinInt, math.MinInt + 1, math.MaxInt, math.MaxInt - 1, math.MaxInt32, 1 << 32, 1<<32 + 100, -1 << 32, 20000, -62, -100}
	for size := -70; size < least; size++ {
		l = append(l, size)
	}
	for size := most + 1; size < 1100; size++ {
		l = append(l, size)
	}
	for _, size := range l {
		if got, e := rsa.Frame([32]byte{1}, size); e != api.ErrArg || len(got) != 0 {
			t.Errorf("Frame of size %d is %v and %d, want nothing and %d", size, got, e, api.ErrArg)
		}
	}
}

// P9.2

// isPower holds Power against that of the Go library. The number of sig must be less than the modulus.
func isPower(t *testing.T, k api.Key, sig []byte) {
	t.Helper()
	power := new(big.Int).Exp(number(sig), new(big.Int).SetUint64(uint64(k.E)), number(k.N))
	want := wideBytes(power, len(k.N))
	if got, e := rsa.Power(k, sig); e != api.OK || !bytes.Equal(got, want) {
		t.Errorf("Power of %x by %x and %d is %x and %d, want %x", sig, k.N, k.E, got, e, want)
	}
}

func isNoPower(t *testing.T, k api.Key, sig []byte, want api.Errno) {
	t.Helper()
	if got, e := rsa.Power(k, sig); e != want || len(got) != 0 {
		t.Errorf("Power of %x by %x and %d is %x and %d, want nothing and %d", sig, k.N, k.E, got, e, want)
	}
	isError(t, "Verify", rsa.Verify(k, []byte("text"), sig), want)
}

func TestPower(t *testing.T) {
	for size := least; size <= most; size += 15 {
		n := modulusOf(int64(size), size)
		for _, exponent := range []uint32{3, 5, 255, 65537, math.MaxUint32} {
			k := api.Key{N: n, E: exponent}
			for seed := range int64(3) {
				sig := new(big.Int).Mod(number(randomBytes(seed, size)), number(n))
				isPower(t, k, wideBytes(sig, size))
			}
		}
	}
}

// All results have as many bytes as N, also those of small numbers.
func TestPowerOfSmallNumbers(t *testing.T) {
	for _, size := range []int{least, 63, 64, 65, 128, most} {
		k := api.Key{N: modulusOf(int64(size), size), E: 3}
		for v := range int64(300) {
			got, e := rsa.Power(k, wideBytes(big.NewInt(v), size))
			if want := wideBytes(big.NewInt(v*v*v), size); e != api.OK || !bytes.Equal(got, want) {
				t.Errorf("the Power of %d in %d bytes is %x and %d, want %x", v, size, got, e, want)
			}
		}
	}
}

func TestPowerNextToModulus(t *testing.T) {
	for _, size := range []int{least, 63, 64, 65, 255, 256, most} {
		for _, n := range [][]byte{modulusOf(int64(size), size), with(modulusOf(1, size), 0, 1), bytes.Repeat([]byte{255}, size)} {
			k := api.Key{N: n, E: 65537}
			for less := int64(1); less < 5; less++ {
				isPower(t, k, wideBytes(new(big.Int).Sub(number(n), big.NewInt(less)), size))
			}
			isNoPower(t, k, n, api.ErrSign)
			isNoPower(t, k, bytes.Repeat([]byte{255}, size), api.ErrSign)
			if n[0] < 255 {
				isNoPower(t, k, wideBytes(new(big.Int).Add(number(n), big.NewInt(1)), size), api.ErrSign)
				isNoPower(t, k, with(n, 0, n[0]+1), api.ErrSign)
				isNoPower(t, k, slices.Concat([]byte{n[0] + 1}, make([]byte, size-1)), api.ErrSign)
			}
			isPower(t, k, with(n, 0, n[0]-1))
			isPower(t, k, with(n, size-1, n[size-1]-1))
		}
	}
}

// An odd power of the modulus less 1 is that number again.
func TestPowerOfModulusLessOne(t *testing.T) {
	for _, size := range []int{least, 100, most} {
		for _, exponent := range []uint32{3, 65537, math.MaxUint32} {
			n := modulusOf(int64(size), size)
			sig := with(n, size-1, n[size-1]-1)
			if got, e := rsa.Power(api.Key{N: n, E: exponent}, sig); e != api.OK || !bytes.Equal(got, sig) {
				t.Errorf("the Power of %x is %x and %d", sig, got, e)
			}
		}
	}
}

func TestPowerOfWrongKeys(t *testing.T) {
	for _, k := range wrongKeys() {
		size := len(k.N)
		for _, sig := range [][]byte{nil, {}, {1}, make([]byte, size), wideBytes(big.NewInt(5), size+1), k.N, make([]byte, 100)} {
			isNoPower(t, k, sig, api.ErrArg)
		}
	}
}

func TestPowerOfWrongSizes(t *testing.T) {
	for _, size := range []int{least, 63, 128, most} {
		k := api.Key{N: modulusOf(int64(size), size), E: 65537}
		for _, other := range []int{0, 1, 2, 61, size - 4, size - 2, size - 1, size + 1, size + 2, size + 4, 2 * size, 20000} {
			isNoPower(t, k, make([]byte, other), api.ErrSign)
			isNoPower(t, k, bytes.Repeat([]byte{1}, other), api.ErrSign)
			isNoPower(t, k, bytes.Repeat([]byte{255}, other), api.ErrSign)
		}
		isNoPower(t, k, nil, api.ErrSign)
		isPower(t, k, make([]byte, size))
	}
}

// P9.3

func isVerified(t *testing.T, name string, k api.Key, text, sig []byte, want api.Errno) {
	t.Helper()
	isError(t, name, rsa.Verify(k, text, sig), want)
}

func (s knownSignature) key() api.Key {
	return api.Key{N: bytesOf(s.modulus), E: s.exponent}
}

func TestVerifyOfKnownSignatures(t *testing.T) {
	for i, s := range knownSignatures() {
		sig := bytesOf(s.signature)
		isVerified(t, "a known signature", s.key(), []byte(knownText), sig, api.OK)
		isVerified(t, "of another text", s.key(), []byte(knownText+"."), sig, api.ErrSign)
		isVerified(t, "of no text", s.key(), nil, sig, api.ErrSign)
		for j, other := range knownSignatures() {
			if i != j {
				isVerified(t, "by another key", other.key(), []byte(knownText), sig, api.ErrSign)
			}
		}
	}
	other := withOtherHash()
	isVerified(t, "with SHA-1", other.key(), []byte(knownText), bytesOf(other.signature), api.ErrSign)
}

func TestVerify(t *testing.T) {
	for _, s := range signers() {
		for _, text := range [][]byte{nil, []byte("a"), []byte("abc"), make([]byte, 64), randomBytes(1, 20000)} {
			sig := s.sign(text)
			isVerified(t, "a signature", s.key, text, sig, api.OK)
			isVerified(t, "of a longer text", s.key, append(slices.Clone(text), 0), sig, api.ErrSign)
			isVerified(t, "less 1", s.key, text, wideBytes(new(big.Int).Sub(number(sig), big.NewInt(1)), len(sig)), api.ErrSign)
		}
	}
}

func TestVerifyOfEverySize(t *testing.T) {
	text := []byte("of every size")
	for size := least; size <= 130; size++ {
		s := newSigner(int64(size), size, 3)
		isVerified(t, "a signature", s.key, text, s.sign(text), api.OK)
	}
}

func TestVerifyOfWrongKeys(t *testing.T) {
	text := []byte("text")
	s := newSigner(1, least, 3)
	sig := s.sign(text)
	for _, k := range wrongKeys() {
		isVerified(t, "a wrong key", k, text, sig, api.ErrArg)
		isVerified(t, "a wrong key, and no signature", k, text, nil, api.ErrArg)
	}
	for _, exponent := range []uint32{0, 1, 2, 4} {
		isVerified(t, "a wrong exponent", api.Key{N: s.key.N, E: exponent}, text, sig, api.ErrArg)
	}
	for _, exponent := range []uint32{5, 7, 65537, math.MaxUint32} {
		isVerified(t, "another exponent", api.Key{N: s.key.N, E: exponent}, text, sig, api.ErrSign)
	}
}

// With a leading zero, or without one that it has, a signature is the same number, but not the same signature.
func TestVerifyOfOtherLengths(t *testing.T) {
	text := []byte("text")
	for _, s := range signers() {
		sig := s.sign(text)
		size := len(sig)
		for _, other := range [][]byte{nil, {}, sig[1:], sig[:size-1], slices.Concat([]byte{0}, sig), slices.Concat(sig, []byte{0}), slices.Concat(sig, sig)} {
			isVerified(t, "another length", s.key, text, other, api.ErrSign)
		}
	}
	shorter := 0
	for _, s := range knownSignatures() {
		if sig := bytesOf(s.signature); sig[0] == 0 {
			shorter++
			isVerified(t, "without its zero", s.key(), []byte(knownText), sig[1:], api.ErrSign)
		}
	}
	if shorter == 0 {
		t.Error("no known signature begins with a zero")
	}
}

// The sum of a signature and the modulus has the same power, if it were taken.
func TestVerifyOfSumWithModulus(t *testing.T) {
	sums := 0
	for _, s := range knownSignatures() {
		sum := new(big.Int).Add(number(bytesOf(s.signature)), number(bytesOf(s.modulus)))
		if size := len(s.modulus) / 2; sum.BitLen() <= 8*size {
			sums++
			isVerified(t, "with the modulus", s.key(), []byte(knownText), wideBytes(sum, size), api.ErrSign)
		}
	}
	if sums == 0 {
		t.Error("no sum has room in the bytes of its modulus")
	}
}

func TestVerifyOfEveryChangedByte(t *testing.T) {
	text := []byte("text")
	for _, s := range []signer{newSigner(1, least, 3), newSigner(2, 128, 65537)} {
		sig, size := s.sign(text), len(s.key.N)
		frame := wantFrame(sha256.Sum256(text), size)
		for i := range size {
			for bit := range 8 {
				change := byte(1) << bit
				isVerified(t, "a changed signature", s.key, text, with(sig, i, sig[i]^change), api.ErrSign)
				isVerified(t, "a changed frame", s.key, text, s.raw(with(frame, i, frame[i]^change)), api.ErrSign)
			}
		}
	}
}

// wrongFrames are what a careless reader of frames may take for one of the hash.
func wrongFrames(hash [32]byte, size int) map[string][]byte {
	l := map[string][]byte{}
	fill := func(start []byte, end ...[]byte) []byte {
		all := slices.Concat(end...)
		return slices.Concat(start, bytes.Repeat([]byte{255}, size-len(start)-len(all)), all)
	}
	start, zero := []byte{0, 1}, []byte{0}
	sha256Element := bytesOf("3031300d060960864801650304020105000420")
	l["type 0"] = fill([]byte{0, 0}, zero, sha256Element, hash[:])
	l["type 2"] = fill([]byte{0, 2}, zero, sha256Element, hash[:])
	l["no parameters"] = fill(start, zero, bytesOf("302f300b06096086480165030402010420"), hash[:])
	l["SHA-224"] = fill(start, zero, bytesOf("3031300d060960864801650304020405000420"), hash[:])
	l["SHA-384"] = fill(start, zero, bytesOf("3031300d060960864801650304020205000420"), hash[:])
	l["a longer length"] = fill(start, zero, bytesOf("308131300d060960864801650304020105000420"), hash[:])
	l["no element"] = fill(start, zero, hash[:])
	l["no separator"] = fill(start, sha256Element, hash[:])
	l["two separators"] = fill(start, zero, zero, sha256Element, hash[:])
	l["hash first"] = fill(start, zero, hash[:], sha256Element)
	l["hash alone"] = slices.Concat(make([]byte, size-len(hash)), hash[:])
	l["element alone"] = slices.Concat(make([]byte, size-51), sha256Element, hash[:])
	l["a shorter frame"] = slices.Concat(zero, wantFrame(hash, size)[:size-1])
	l["all 255"] = fill(start)
	l["nothing"] = make([]byte, size)
	if size > 100 {
		short := wantFrame(hash, least)
		l["bytes after the hash"] = slices.Concat(short, make([]byte, size-least))
		l["a short frame at the end"] = slices.Concat(make([]byte, size-least), short)
		l["eight 255, then 0"] = slices.Concat(short[:10], make([]byte, size-least), short[10:])
		l["0 in the middle"] = with(wantFrame(hash, size), size/4, 0)
	}
	return l
}

func TestVerifyOfWrongFrames(t *testing.T) {
	text := []byte("text")
	for _, s := range []signer{newSigner(1, least+2, 3), newSigner(2, 128, 3), newSigner(3, 256, 65537)} {
		isVerified(t, "the frame", s.key, text, s.sign(text), api.OK)
		for name, frame := range wrongFrames(sha256.Sum256(text), len(s.key.N)) {
			isVerified(t, name, s.key, text, s.raw(frame), api.ErrSign)
		}
	}
}

// A perfect cube near the frame is its own Power with exponent 3 without any secret.
func TestVerifyOfCubeRoot(t *testing.T) {
	text := []byte("text")
	s := newSigner(1, 384, 3)
	short := wantFrame(sha256.Sum256(text), least)
	target := number(slices.Concat(short, bytes.Repeat([]byte{255}, 384-least)))
	low, high := big.NewInt(0), new(big.Int).Lsh(big.NewInt(1), 1024)
	for new(big.Int).Sub(high, low).Cmp(big.NewInt(1)) > 0 {
		middle := new(big.Int).Rsh(new(big.Int).Add(low, high), 1)
		if new(big.Int).Exp(middle, big.NewInt(3), nil).Cmp(target) <= 0 {
			low = middle
		} else {
			high = middle
		}
	}
	sig := wideBytes(low, 384)
	if power, e := rsa.Power(s.key, sig); e != api.OK || !bytes.Equal(power[:least], short) {
		t.Errorf("Power is %x and %d", power, e)
	}
	isVerified(t, "a cube root", s.key, text, sig, api.ErrSign)
}

// The Go library takes keys of 1024 bits or more.
func TestVerifyLikeTheLibrary(t *testing.T) {
	for _, s := range signers() {
		if len(s.key.N) < 128 {
			continue
		}
		public := &stdrsa.PublicKey{N: number(s.key.N), E: int(s.key.E)}
		sig := s.sign([]byte("text"))
		for _, text := range [][]byte{[]byte("text"), []byte("test")} {
			hash := sha256.Sum256(text)
			for _, other := range [][]byte{sig, sig[1:], with(sig, 5, sig[5]+1), s.key.N} {
				want := stdrsa.VerifyPKCS1v15(public, crypto.SHA256, hash[:], other) == nil
				if got := rsa.Verify(s.key, text, other) == api.OK; got != want {
					t.Errorf("Verify of %q and %x is %t, want %t", text, other, got, want)
				}
			}
		}
	}
}

// P9.4

func TestValidOnlyIfPowerIsFrame(t *testing.T) {
	texts := [][]byte{nil, []byte("a"), []byte("b"), randomBytes(2, 300)}
	for _, s := range signers() {
		valid := 0
		for i, text := range texts {
			frame, _ := rsa.Frame(sha256.Sum256(text), len(s.key.N))
			sigs := [][]byte{frame, make([]byte, len(frame)), s.raw(with(frame, len(frame)-1, frame[len(frame)-1]^1))}
			for _, other := range texts {
				sigs = append(sigs, s.sign(other))
			}
			for j, sig := range sigs {
				power, e := rsa.Power(s.key, sig)
				isError(t, "Power", e, api.OK)
				is := rsa.Verify(s.key, text, sig) == api.OK
				if is != bytes.Equal(power, frame) || is != (j == i+3) {
					t.Errorf("Verify of %x is %t, and its Power %x, for the frame %x", sig, is, power, frame)
				}
				if is {
					valid++
				}
			}
		}
		if valid != len(texts) {
			t.Errorf("%d signatures are valid, want %d", valid, len(texts))
		}
	}
}

func TestNotValidForAnotherHash(t *testing.T) {
	s := newSigner(1, 100, 65537)
	text := randomBytes(3, 200)
	sig := s.sign(text)
	isVerified(t, "the text", s.key, text, sig, api.OK)
	for i := range text {
		isVerified(t, "a changed text", s.key, with(text, i, text[i]^1), sig, api.ErrSign)
		isVerified(t, "a shorter text", s.key, text[:i], sig, api.ErrSign)
	}
}

// R2, R3 and R4

// inRoom returns b with bytes behind it that it could grow into.
func inRoom(b []byte) []byte {
	return slices.Concat(b, bytes.Repeat([]byte{77}, 40))[:len(b)]
}

func isUnchanged(t *testing.T, b, want []byte) {
	t.Helper()
	if !bytes.Equal(b[:len(want)+40], slices.Concat(want, bytes.Repeat([]byte{77}, 40))) {
		t.Errorf("an argument, and what is behind it, is %x, want %x", b, want)
	}
}

func TestArgumentsAreNeitherChangedNorShared(t *testing.T) {
	for _, s := range signers() {
		text := []byte("text")
		sig := s.sign(text)
		frame := wantFrame(sha256.Sum256(text), len(sig))
		n, textToo, sigToo := inRoom(s.key.N), inRoom(text), inRoom(sig)
		k := api.Key{N: n, E: s.key.E}
		for range 2 { // nothing is kept from the first time
			isVerified(t, "a signature", k, textToo, sigToo, api.OK)
			power, e := rsa.Power(k, sigToo)
			if e != api.OK || !bytes.Equal(power, frame) {
				t.Errorf("Power is %x and %d, want %x", power, e, frame)
			}
			clear(power[:cap(power)])
			built, _ := rsa.Frame(sha256.Sum256(text), len(sig))
			clear(built[:cap(built)])
		}
		isUnchanged(t, n, s.key.N)
		isUnchanged(t, textToo, text)
		isUnchanged(t, sigToo, sig)
		power, _ := rsa.Power(k, sigToo)
		clear(n)
		clear(sigToo)
		if !bytes.Equal(power, frame) {
			t.Error("Power shares memory with its arguments")
		}
	}
}

func TestNilIsEmpty(t *testing.T) {
	s := newSigner(1, least, 3)
	sig := s.sign(nil)
	isVerified(t, "nil as text", s.key, nil, sig, api.OK)
	isVerified(t, "an empty text", s.key, []byte{}, sig, api.OK)
	isVerified(t, "nil as signature", s.key, nil, nil, api.ErrSign)
	isVerified(t, "an empty signature", s.key, nil, []byte{}, api.ErrSign)
	isVerified(t, "nil as modulus", api.Key{E: 3}, nil, sig, api.ErrArg)
	isVerified(t, "an empty modulus", api.Key{N: []byte{}, E: 3}, nil, sig, api.ErrArg)
}
