package crl_test

import (
	"bytes"
	"math"
	"slices"
	"strings"
	"testing"

	"lanyard/api"
	"lanyard/crl"
	"lanyard/rsa"
)

const midTime = 1000000005 // a time at which ordinary is valid

// issuer is the certificate of the issuer of ordinary.
func issuer() api.Cert {
	return api.Cert{
		Serial: 1, Issuer: "anchor", Subject: "issuer", From: 900000000, To: 1100000000,
		Key: signers()[0].key, CA: true, Res: api.Res{Inherit: true}, Repo: "rsync://example.net/issuer/",
	}
}

func isCrlAnd(t *testing.T, what any, got api.Crl, e api.Errno, want api.Crl, wantE api.Errno) {
	t.Helper()
	if wantE != api.OK {
		want = api.Crl{}
	}
	if e != wantE || !sameCrl(got, want) {
		t.Errorf("%v: %+v %d, want %+v %d", what, got, e, want, wantE)
	}
}

// isCheck checks bytes with the issuer of ordinary, at a time at which that is valid.
func isCheck(t *testing.T, what any, b []byte, want api.Crl, wantE api.Errno) {
	t.Helper()
	got, e := crl.Check(b, issuer(), midTime)
	isCrlAnd(t, what, got, e, want, wantE)
}

// P16.3

func TestCheck(t *testing.T) {
	isCheck(t, "ordinary", signers()[0].make(ordinary()), ordinary(), api.OK)
	got, e := crl.Check(signers()[0].make(none()), issuer(), none().Next)
	isCrlAnd(t, "none", got, e, none(), api.OK)
}

func TestCheckOfKnownLists(t *testing.T) {
	for i, k := range knownCrls() {
		for now, want := range map[int64]api.Errno{k.crl.This - 1: api.ErrTime, k.crl.This: api.OK, k.crl.Next: api.OK, k.crl.Next + 1: api.ErrTime} {
			got, e := crl.Check(k.whole(), knownIssuer(), now)
			isCrlAnd(t, i, got, e, k.crl, want)
		}
		b := k.whole()
		b[len(b)-1] ^= 1
		got, e := crl.Check(b, knownIssuer(), k.crl.This)
		isCrlAnd(t, i, got, e, k.crl, api.ErrSign)
	}
}

// Every valid list is accepted, whatever its parts are.
func TestCheckOfValidLists(t *testing.T) {
	for i, c := range slices.Concat(valid(), randomCrls(5, 100)) {
		s := signers()[i%len(signers())]
		for _, now := range []int64{c.This, c.Next} {
			got, e := crl.Check(s.make(c), api.Cert{Subject: c.Issuer, Key: s.key}, now)
			isCrlAnd(t, i, got, e, c, api.OK)
		}
	}
}

func TestCheckReturnsTheErrorsOfRead(t *testing.T) {
	right := signers()[0].make(ordinary())
	for i, b := range [][]byte{
		nil, right[:20], right[1:], append(slices.Clone(right), 0), make([]byte, 20001), sealed(nest(32), nil), encode(nest(33)),
		signers()[0].seal(list()), signers()[0].make(but(ordinary(), func(c *api.Crl) { c.Issuer = "" })),
		signers()[0].make(but(ordinary(), func(c *api.Crl) { c.This = c.Next + 1 })), signers()[0].make(but(ordinary(), func(c *api.Crl) { c.Serials = []uint32{5, 4} })),
		signers()[0].make(but(ordinary(), func(c *api.Crl) { c.Serials = many(401, false) })),
	} {
		_, want := crl.Read(b)
		if want == api.OK {
			t.Fatal("nothing is wrong:", i)
		}
		isCheck(t, i, b, api.Crl{}, want)
		got, e := crl.Check(b, api.Cert{}, 0)
		isCrlAnd(t, i, got, e, api.Crl{}, want)
	}
}

func TestCheckOfNames(t *testing.T) {
	for _, name := range []string{"Issuer", "issuer ", " issuer", "issue", "issuers", "anchor", "x", "~"} {
		b := signers()[0].make(but(ordinary(), func(c *api.Crl) { c.Issuer = name }))
		isCheck(t, name, b, api.Crl{}, api.ErrName)
	}
	b := signers()[0].make(ordinary())
	for _, subject := range []string{"", "Issuer", "issuer\x00", "anchor", strings.Repeat("issuer", 1000)} {
		other := issuer()
		other.Subject = subject
		got, e := crl.Check(b, other, midTime)
		isCrlAnd(t, subject, got, e, api.Crl{}, api.ErrName)
	}
	got, e := crl.Check(b, api.Cert{}, midTime)
	isCrlAnd(t, "the zero issuer", got, e, api.Crl{}, api.ErrName)
	long := strings.Repeat("x", 200)
	c := but(ordinary(), func(c *api.Crl) { c.Issuer = long })
	got, e = crl.Check(signers()[0].make(c), api.Cert{Subject: long, Key: signers()[0].key}, midTime)
	isCrlAnd(t, "long", got, e, c, api.OK)
}

func TestCheckOfSignatures(t *testing.T) {
	n, s := wantNode(ordinary()), signers()[0]
	right := s.sign(encode(n))
	isCheck(t, "right", sealed(n, right), ordinary(), api.OK)
	for i := range right {
		for bit := range 8 {
			isCheck(t, i, sealed(n, withByte(right, i, right[i]^1<<bit)), api.Crl{}, api.ErrSign)
		}
	}
	for i, sig := range [][]byte{
		nil, {0}, right[1:], right[:len(right)-1], append([]byte{0}, right...), append(slices.Clone(right), 0), make([]byte, len(right)), s.key.N,
		signers()[1].sign(encode(n)), signers()[2].sign(encode(n)), // by other keys
		s.sign(sealed(n, right)), s.sign(encode(n)[2:]), s.sign(nil), s.sign(encode(wantNode(none()))), // of other bytes
	} {
		isCheck(t, i, sealed(n, sig), api.Crl{}, api.ErrSign)
	}
}

// A signature is that of one list alone: any change to what is signed is noticed.
func TestCheckOfChangedLists(t *testing.T) {
	right := signers()[0].sign(encode(wantNode(ordinary())))
	valid := 0
	for i, f := range rightChanges() {
		c := but(ordinary(), f)
		c.Issuer = "issuer"
		if sameCrl(c, ordinary()) {
			continue
		}
		valid++
		isCheck(t, i, sealed(wantNode(c), right), api.Crl{}, api.ErrSign)
	}
	if valid < 30 {
		t.Error("too few were changed:", valid)
	}
}

// No list with a changed bit is accepted.
func TestCheckOfChangedBits(t *testing.T) {
	b := signers()[0].make(ordinary())
	for i := range b {
		for bit := range 8 {
			other := withByte(b, i, b[i]^1<<bit)
			_, reading := crl.Read(other)
			got, e := crl.Check(other, issuer(), midTime)
			if e == api.OK || !isZero(got) || reading != api.OK && e != reading || reading == api.OK && e != api.ErrSign && e != api.ErrName {
				t.Fatal(i, bit, got, e, reading)
			}
		}
	}
}

func TestCheckOfTimes(t *testing.T) {
	c := ordinary()
	b := signers()[0].make(c)
	for now, want := range map[int64]api.Errno{
		c.This - 1: api.ErrTime, c.This: api.OK, c.This + 1: api.OK, c.Next - 1: api.OK, c.Next: api.OK, c.Next + 1: api.ErrTime,
		0: api.ErrTime, -c.This: api.ErrTime, math.MinInt64: api.ErrTime, math.MaxInt64: api.ErrTime, firstTime - 1: api.ErrTime, lastTime + 1: api.ErrTime,
		c.This + 1<<32: api.ErrTime, c.This - 1<<32: api.ErrTime,
	} {
		got, e := crl.Check(b, issuer(), now)
		isCrlAnd(t, now, got, e, c, want)
	}
}

// A key of the issuer that is not valid: the error is that of rsa.Verify.
func TestCheckWithWrongKeys(t *testing.T) {
	n := signers()[0].key.N
	b := signers()[0].make(ordinary())
	for i, k := range []api.Key{
		{}, {N: n}, {N: n, E: 1}, {N: n, E: 2}, {N: n, E: 65536}, {E: 65537},
		{N: withByte(n, 0, 0), E: 3}, {N: withByte(n, len(n)-1, 2), E: 3}, {N: n[:61], E: 3}, {N: bytes.Repeat([]byte{1}, 513), E: 3}, {N: bytes.Repeat([]byte{1}, 70000), E: 3},
	} {
		other := issuer()
		other.Key = k
		for _, now := range []int64{midTime, 0} { // ahead of ErrTime
			got, e := crl.Check(b, other, now)
			isCrlAnd(t, i, got, e, api.Crl{}, api.ErrArg)
		}
		other.Subject = "other"
		got, e := crl.Check(b, other, midTime)
		isCrlAnd(t, i, got, e, api.Crl{}, api.ErrName)
	}
	for i, k := range []api.Key{signers()[1].key, {N: n, E: 3}, {N: n, E: 65539}, {N: append([]byte{1}, n...), E: 65537}, {N: n[1:], E: 65537}} {
		got, e := crl.Check(b, api.Cert{Subject: "issuer", Key: k}, midTime)
		isCrlAnd(t, i, got, e, api.Crl{}, api.ErrSign)
	}
}

// Nothing counts of an issuer but Subject and Key.
func TestCheckWithOtherIssuers(t *testing.T) {
	b := signers()[0].make(ordinary())
	for i, change := range []func(*api.Cert){
		func(c *api.Cert) { c.CA, c.Repo, c.Crl = false, "", "" },
		func(c *api.Cert) { c.Serial, c.Issuer = 5, "other" },
		func(c *api.Cert) { c.From, c.To = lastTime, lastTime },
		func(c *api.Cert) { c.From, c.To = 9, 1 },
		func(c *api.Cert) { c.Res = api.Res{} },
		func(c *api.Cert) { *c = api.Cert{Subject: c.Subject, Key: c.Key} },
	} {
		other := issuer()
		change(&other)
		got, e := crl.Check(b, other, midTime)
		isCrlAnd(t, i, got, e, ordinary(), api.OK)
	}
}

// Every set of things that are wrong: the first of them is told.
func TestCheckReturnsTheFirstError(t *testing.T) {
	errors := []api.Errno{api.ErrForm, api.ErrName, api.ErrSign, api.ErrTime}
	for set := range 1 << len(errors) {
		is := func(i int) bool { return set>>i&1 == 1 }
		c, now, want := ordinary(), int64(midTime), api.OK
		for i := range errors {
			if is(i) && want == api.OK {
				want = errors[i]
			}
		}
		if is(1) {
			c.Issuer = "other"
		}
		if is(3) {
			now = c.Next + 1
		}
		b := signers()[0].make(c)
		if is(2) {
			b[len(b)-1] ^= 1
		}
		if is(0) {
			b = append(b, 0)
		}
		got, e := crl.Check(b, issuer(), now)
		isCrlAnd(t, set, got, e, c, want)
	}
}

// P16.4

func TestReadOfMadeLists(t *testing.T) {
	for i, c := range slices.Concat(valid(), randomCrls(8, 500)) {
		sig := bytes.Repeat([]byte{byte(i)}, i%100)
		b, e := crl.Make(c, sig)
		got, reading := crl.Read(b)
		if e != api.OK || reading != api.OK || !sameCrl(got, c) || !crl.Right(got) {
			t.Fatalf("%+v %+v %d %d", c, got, e, reading)
		}
		if again, e := crl.Make(got, sig); e != api.OK || !bytes.Equal(again, b) {
			t.Fatalf("%+v %v %v %d", c, b, again, e)
		}
	}
}

func TestAcceptedFromThisToNext(t *testing.T) {
	for _, period := range [][2]int64{{100, 105}, {-3, 0}, {longTime - 2, longTime + 1}, {7, 7}, {firstTime, firstTime + 1}, {lastTime - 1, lastTime}} {
		c := but(ordinary(), func(c *api.Crl) { c.This, c.Next = period[0], period[1] })
		b := signers()[0].make(c)
		for now := period[0] - 9; now <= period[1]+9; now++ {
			want := api.OK
			if now < period[0] || now > period[1] {
				want = api.ErrTime
			}
			got, e := crl.Check(b, issuer(), now)
			isCrlAnd(t, now, got, e, c, want)
		}
	}
}

// Whatever is accepted was signed with the key of the issuer.
func TestAcceptedListsAreSigned(t *testing.T) {
	for i, by := range signers() {
		b := by.make(ordinary())
		for j, s := range signers() {
			want := api.OK
			if i != j {
				want = api.ErrSign
			}
			if e := rsa.Verify(s.key, encode(wantNode(ordinary())), by.sign(encode(wantNode(ordinary())))); e != want {
				t.Error(i, j, e)
			}
			got, e := crl.Check(b, api.Cert{Subject: "issuer", Key: s.key}, midTime)
			isCrlAnd(t, [2]int{i, j}, got, e, ordinary(), want)
		}
	}
}

// R3 and R4

// wipe changes all memory of a slice, also what is behind its last element.
func wipe[T byte | uint32](l []T) {
	l = l[:cap(l)]
	for i := range l {
		l[i] ^= 85
	}
}

func wipeNode(n api.Node) {
	wipe(n.Body)
	for _, kid := range n.Kids {
		wipeNode(kid)
	}
	kids := n.Kids[:cap(n.Kids)]
	for i := range kids {
		kids[i] = api.Node{Tag: 77}
	}
}

// isUntouched reports whether c equals want, and nothing was written behind its last serial number, where cloneCrl left memory.
func isUntouched(c, want api.Crl) bool {
	return sameCrl(c, want) && c.Serials[:len(c.Serials)+1][len(c.Serials)] == 0
}

func TestNodeAndMakeKeepTheirArguments(t *testing.T) {
	for i, one := range valid() {
		c, sig := cloneCrl(one), slices.Grow([]byte{1, 2, 3}, 8)
		crl.Right(c)
		n, _ := crl.Node(c)
		again, _ := crl.Node(c)
		b, _ := crl.Make(c, sig)
		kept := bytes.Clone(b)
		other, _ := crl.Make(c, sig)
		if !isUntouched(c, one) || !bytes.Equal(sig[:4], []byte{1, 2, 3, 0}) {
			t.Fatal("the arguments were changed:", i)
		}
		wipeNode(n)
		wipe(other)
		if !isUntouched(c, one) || !bytes.Equal(sig, []byte{1, 2, 3}) || !sameNode(again, wantNode(one)) || !bytes.Equal(b, kept) {
			t.Fatal("a result shares memory:", i)
		}
		wipe(c.Serials)
		wipe(sig)
		if !sameNode(again, wantNode(one)) || !bytes.Equal(b, kept) {
			t.Fatal("a result shares memory with an argument:", i)
		}
	}
}

func TestRightAndNodeKeepWrongArguments(t *testing.T) {
	for i, one := range wrong() {
		c := cloneCrl(one)
		crl.Right(c)
		crl.Node(c)
		crl.Make(c, nil)
		if !isUntouched(c, one) {
			t.Fatal("the argument was changed:", i)
		}
	}
}

func TestReadKeepsItsArgument(t *testing.T) {
	for i, one := range valid() {
		b := slices.Grow(sealed(wantNode(one), []byte{1}), 8)
		kept := bytes.Clone(b)
		got, _ := crl.Read(b)
		again, _ := crl.Read(b)
		wipe(got.Serials)
		if !bytes.Equal(b, kept) || b[:len(b)+1][len(b)] != 0 || !sameCrl(again, one) {
			t.Fatal("a result shares memory:", i)
		}
		wipe(b)
		if !sameCrl(again, one) {
			t.Fatal("a result shares memory with the argument:", i)
		}
	}
}

func TestCheckKeepsItsArguments(t *testing.T) {
	c, above := ordinary(), issuer()
	above.Key.N = bytes.Clone(above.Key.N)
	b := signers()[0].make(c)
	kept := bytes.Clone(b)
	got, e := crl.Check(b, above, midTime)
	isCrlAnd(t, "once", got, e, c, api.OK)
	again, e := crl.Check(b, above, midTime)
	isCrlAnd(t, "again", again, e, c, api.OK)
	wipe(got.Serials)
	if !bytes.Equal(b, kept) || !bytes.Equal(above.Key.N, issuer().Key.N) {
		t.Fatal("an argument was changed, or shares memory with a result")
	}
	wipe(b)
	wipe(above.Key.N)
	if !sameCrl(again, c) {
		t.Fatal("a result shares memory with an argument, or with another result")
	}
}

// The same call returns the same again, also after calls that fail.
func TestCallsAreIndependent(t *testing.T) {
	b := signers()[0].make(ordinary())
	for range 5 {
		for i, c := range wrong() {
			if _, e := crl.Node(c); crl.Right(c) || e != api.ErrArg {
				t.Fatal("valid:", i)
			}
		}
		crl.Check(b, api.Cert{}, 0)
		crl.Check(b[1:], issuer(), 0)
		crl.Check(b, issuer(), 0)
		isCheck(t, "ordinary", b, ordinary(), api.OK)
		if got, e := crl.Read(b); e != api.OK || !sameCrl(got, ordinary()) || !crl.Right(ordinary()) || !crl.Right(none()) {
			t.Fatal(got, e)
		}
	}
}
