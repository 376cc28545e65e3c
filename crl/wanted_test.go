package crl_test

import (
	"bytes"
	"crypto/sha256"
	"encoding/hex"
	"math"
	"math/big"
	"math/rand"
	"slices"
	"strings"
	"sync"
	"time"

	"lanyard/api"
)

const (
	firstTime = -631152000 // the beginning of 1950
	lastTime  = 7258118399 // the end of 2199
	longTime  = 2524608000 // the beginning of 2050
)

// bytesOf returns the bytes of hexadecimal digits.
func bytesOf(digits string) []byte {
	b, e := hex.DecodeString(digits)
	if e != nil {
		panic(e)
	}
	return b
}

// many are so many serial numbers, as small or as great as they can be.
func many(size int, great bool) []uint32 {
	l := make([]uint32, size)
	for i := range l {
		l[i] = uint32(i)
		if great {
			l[i] = math.MaxUint32 - uint32(size-1-i)
		}
	}
	return l
}

// signer is a key with its secret.
type signer struct {
	key    api.Key
	secret *big.Int
}

// signers have moduli of the least size, of others that are small enough for quick tests, and of the greatest one.
var signers = sync.OnceValue(func() []signer {
	return []signer{newSigner(1, 64, 65537), newSigner(2, 62, 3), newSigner(3, 65, 17), newSigner(4, 62, math.MaxUint32), newSigner(5, 512, 65537)}
})

// newSigner returns one whose modulus has size bytes: it is the product of eight primes of size bits each.
func newSigner(seed int64, size int, exponent uint32) signer {
	r := rand.New(rand.NewSource(seed))
	modulus, order := big.NewInt(1), big.NewInt(1)
	for range 8 { // of that many bits, no two are equal
		p := prime(r, size, exponent)
		modulus.Mul(modulus, p)
		order.Mul(order, new(big.Int).Sub(p, big.NewInt(1)))
	}
	secret := new(big.Int).ModInverse(new(big.Int).SetUint64(uint64(exponent)), order)
	return signer{api.Key{N: modulus.Bytes(), E: exponent}, secret}
}

// prime returns one whose upper four bits are 1, so that the product of eight has all their bits, and that has a secret for the exponent.
func prime(r *rand.Rand, size int, exponent uint32) *big.Int {
	one := big.NewInt(1)
	for {
		p := new(big.Int).Rand(r, new(big.Int).Lsh(one, uint(size)))
		for bit := size - 4; bit < size; bit++ {
			p.SetBit(p, bit, 1)
		}
		p.SetBit(p, 0, 1)
		common := new(big.Int).GCD(nil, nil, new(big.Int).Sub(p, one), new(big.Int).SetUint64(uint64(exponent)))
		if common.Cmp(one) == 0 && p.ProbablyPrime(10) {
			return p
		}
	}
}

func (s signer) sign(said []byte) []byte {
	size := len(s.key.N)
	hash := sha256.Sum256(said)
	frame := slices.Concat([]byte{0, 1}, bytes.Repeat([]byte{255}, size-54), bytesOf("003031300d060960864801650304020105000420"), hash[:])
	sig := new(big.Int).Exp(new(big.Int).SetBytes(frame), s.secret, new(big.Int).SetBytes(s.key.N))
	return sig.FillBytes(make([]byte, size))
}

// seal signs any element.
func (s signer) seal(n api.Node) []byte {
	return sealed(n, s.sign(encode(n)))
}

func (s signer) make(c api.Crl) []byte {
	return s.seal(wantNode(c))
}

func sealed(n api.Node, sig []byte) []byte {
	return encode(list(n, algorithm(11), bits(sig)))
}

func list(kids ...api.Node) api.Node {
	return api.Node{Tag: 48, Kids: kids}
}

func number(b ...byte) api.Node {
	return api.Node{Tag: 2, Body: b}
}

func text(s string) api.Node {
	return api.Node{Tag: 22, Body: []byte(s)}
}

func bits(b []byte) api.Node {
	return api.Node{Tag: 3, Body: append([]byte{0}, b...)}
}

// algorithm has the object identifier 1, 2, 840, 113549, 1, 1 and a last number.
func algorithm(last byte) api.Node {
	return list(api.Node{Tag: 6, Body: []byte{42, 134, 72, 134, 247, 13, 1, 1, last}}, api.Node{Tag: 5})
}

// encode takes the Body and the Kids of any element, whatever its Tag is.
func encode(n api.Node) []byte {
	b := slices.Clone(n.Body)
	for _, kid := range n.Kids {
		b = append(b, encode(kid)...)
	}
	head := []byte{byte(n.Tag), 130, byte(len(b) >> 8), byte(len(b))}
	switch {
	case len(b) < 128:
		head = []byte{byte(n.Tag), byte(len(b))}
	case len(b) < 256:
		head = []byte{byte(n.Tag), 129, byte(len(b))}
	}
	return append(head, b...)
}

func sameNode(a, b api.Node) bool {
	return a.Tag == b.Tag && bytes.Equal(a.Body, b.Body) && slices.EqualFunc(a.Kids, b.Kids, sameNode)
}

func cloneNode(n api.Node) api.Node {
	n.Body, n.Kids = bytes.Clone(n.Body), slices.Clone(n.Kids)
	for i, kid := range n.Kids {
		n.Kids[i] = cloneNode(kid)
	}
	return n
}

func sameCrl(a, b api.Crl) bool {
	return a.Issuer == b.Issuer && a.Number == b.Number && a.This == b.This && a.Next == b.Next && slices.Equal(a.Serials, b.Serials)
}

func isZero(c api.Crl) bool {
	return sameCrl(c, api.Crl{})
}

// cloneCrl leaves memory behind the last serial number.
func cloneCrl(c api.Crl) api.Crl {
	c.Serials = slices.Grow(slices.Clone(c.Serials), 2)
	return c
}

// but returns another list, which change has changed.
func but(c api.Crl, change func(*api.Crl)) api.Crl {
	c = cloneCrl(c)
	change(&c)
	return c
}

func isText(s string) bool {
	return len(s) <= 200 && !strings.ContainsFunc(s, func(r rune) bool { return r < ' ' || r > '~' })
}

// wantTime returns the element of a point in time from 1950 to 2199.
func wantTime(s int64) (api.Node, bool) {
	switch {
	case s < firstTime || s > lastTime:
		return api.Node{}, false
	case s < longTime:
		return api.Node{Tag: 23, Body: []byte(time.Unix(s, 0).UTC().Format("060102150405Z"))}, true
	}
	return api.Node{Tag: 24, Body: []byte(time.Unix(s, 0).UTC().Format("20060102150405Z"))}, true
}

// wantRight follows the definition of a valid list, word by word.
func wantRight(c api.Crl) bool {
	_, isThis := wantTime(c.This)
	_, isNext := wantTime(c.Next)
	switch {
	case c.Issuer == "", !isText(c.Issuer):
		return false
	case !isThis, !isNext, c.This > c.Next:
		return false
	}
	return areSerials(c.Serials)
}

// areSerials asks whether a list that is sorted, and in which each number occurs once, is the same.
func areSerials(l []uint32) bool {
	sorted := slices.Clone(l)
	slices.Sort(sorted)
	return slices.Equal(l, slices.Compact(sorted)) && len(l) <= 400
}

// wantNumber returns the element of the shortest two's complement bytes of n.
func wantNumber(n uint32) api.Node {
	b := new(big.Int).SetUint64(uint64(n)).Bytes()
	if len(b) == 0 || b[0] > 127 {
		b = append([]byte{0}, b...)
	}
	return number(b...)
}

// wantNode follows the promise about the element of a valid list. For any other one it returns an element that is like this.
func wantNode(c api.Crl) api.Node {
	this, _ := wantTime(c.This)
	next, _ := wantTime(c.Next)
	serials := list()
	for _, serial := range c.Serials {
		serials.Kids = append(serials.Kids, wantNumber(serial))
	}
	return list(text(c.Issuer), wantNumber(c.Number), list(this, next), serials)
}

// reader keeps whether every part so far was right.
type reader struct{ ok bool }

func (r *reader) demand(is bool) {
	r.ok = r.ok && is
}

func (r *reader) number(n api.Node) uint32 {
	value := new(big.Int).SetBytes(n.Body)
	r.demand(value.BitLen() <= 32 && sameNode(wantNumber(uint32(value.Uint64())), n))
	return uint32(value.Uint64())
}

func (r *reader) text(n api.Node) string {
	r.demand(n.Tag == 22 && len(n.Kids) == 0 && isText(string(n.Body)))
	return string(n.Body)
}

func (r *reader) time(n api.Node) int64 {
	digits := string(n.Body)
	if n.Tag == 23 && digits >= "5" {
		digits = "19" + digits
	} else if n.Tag == 23 {
		digits = "20" + digits
	}
	at, e := time.Parse("20060102150405Z", digits)
	want, ok := wantTime(at.Unix())
	r.demand(e == nil && ok && sameNode(want, n))
	return at.Unix()
}

func (r *reader) list(n api.Node) []api.Node {
	r.demand(n.Tag == 48 && len(n.Body) == 0)
	return n.Kids
}

// wantCrl checks every part of an element, instead of encoding again what it has read.
func wantCrl(n api.Node) (api.Crl, bool) {
	r := reader{ok: true}
	parts := r.list(n)
	if len(parts) != 4 {
		return api.Crl{}, false
	}
	times := r.list(parts[2])
	if len(times) != 2 {
		return api.Crl{}, false
	}
	c := api.Crl{Issuer: r.text(parts[0]), Number: r.number(parts[1]), This: r.time(times[0]), Next: r.time(times[1])}
	for _, serial := range r.list(parts[3]) {
		c.Serials = append(c.Serials, r.number(serial))
	}
	return c, r.ok && c.Issuer != "" && c.This <= c.Next && areSerials(c.Serials)
}

// changed returns elements that differ from n itself in one thing, each in its own memory.
func changed(n api.Node) []api.Node {
	var l []api.Node
	change := func(f func(*api.Node)) {
		other := cloneNode(n)
		f(&other)
		l = append(l, other)
	}
	for _, tag := range []int{0, 1, 2, 3, 4, 5, 6, 16, 22, 23, 24, 48, 49, 160, n.Tag ^ 32} {
		change(func(n *api.Node) { n.Tag = tag })
	}
	for _, b := range []byte{0, 1, 31, 32, 48, 126, 127, 128, 255} {
		change(func(n *api.Node) { n.Body = append(n.Body, b) })
		change(func(n *api.Node) { n.Body = append([]byte{b}, n.Body...) })
	}
	change(func(n *api.Node) { n.Body = nil })
	for i := range n.Body {
		change(func(n *api.Node) { n.Body = slices.Delete(n.Body, i, i+1) })
		for _, more := range []byte{1, 10, 127, 128, 129, 254, 255} {
			change(func(n *api.Node) { n.Body[i] += more })
		}
	}
	for _, kid := range []api.Node{{Tag: 5}, list(), number(3), number(2, 0), number(0), text(""), text("a"), {Tag: 23, Body: []byte("260101000000Z")}} {
		change(func(n *api.Node) { n.Kids = append(n.Kids, kid) })
		change(func(n *api.Node) { n.Kids = append([]api.Node{kid}, n.Kids...) })
	}
	for i := range n.Kids {
		change(func(n *api.Node) { n.Kids = slices.Delete(n.Kids, i, i+1) })
		change(func(n *api.Node) { n.Kids = n.Kids[:i] })
		change(func(n *api.Node) { n.Kids[i], n.Kids[0] = n.Kids[0], n.Kids[i] })
		change(func(n *api.Node) { n.Kids = slices.Insert(n.Kids, i, cloneNode(n.Kids[i])) })
	}
	return l
}

// changedWithin returns elements that differ from n in one thing, in n itself or in an element within it.
func changedWithin(n api.Node) []api.Node {
	l := changed(n)
	for i, kid := range n.Kids {
		for _, other := range changedWithin(kid) {
			whole := cloneNode(n)
			whole.Kids[i] = other
			l = append(l, whole)
		}
	}
	return l
}

// withByte returns b with another byte at i.
func withByte(b []byte, i int, value byte) []byte {
	b = slices.Clone(b)
	b[i] = value
	return b
}
