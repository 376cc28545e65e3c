package manifest_test

import (
	"bytes"
	"crypto/sha256"
	"encoding/hex"
	"fmt"
	"math/big"
	"slices"
	"time"

	"lanyard/api"
)

const (
	firstTime = -631152000 // the beginning of 1950
	lastTime  = 7258118399 // the end of 2199
	longTime  = 2524608000 // the beginning of 2050

	ofNames = "-.0123456789_abcdefghijklmnopqrstuvwxyz" // the bytes of names, in increasing order
)

// bytesOf returns the bytes of hexadecimal digits.
func bytesOf(digits string) []byte {
	b, e := hex.DecodeString(digits)
	if e != nil {
		panic(e)
	}
	return b
}

// many are so many files with names of so many bytes.
func many(size, bytes int) []api.File {
	l := make([]api.File, size)
	for i := range l {
		l[i] = api.File{Name: fmt.Sprintf("%0*d", bytes, i), Hash: sha256.Sum256([]byte{byte(i)})}
	}
	return l
}

// named are files with these names, each with another hash.
func named(names ...string) []api.File {
	var l []api.File
	for i, name := range names {
		l = append(l, api.File{Name: name, Hash: sha256.Sum256([]byte(fmt.Sprint(i, name)))})
	}
	return l
}

func list(kids ...api.Node) api.Node {
	return api.Node{Tag: 48, Kids: kids}
}

func number(b ...byte) api.Node {
	return api.Node{Tag: 2, Body: b}
}

func text(s string) api.Node {
	return api.Node{Tag: 22, Body: []byte(s)}
}

func bits(b []byte) api.Node {
	return api.Node{Tag: 3, Body: append([]byte{0}, b...)}
}

// encode takes the Body and the Kids of any element, whatever its Tag is.
func encode(n api.Node) []byte {
	b := slices.Clone(n.Body)
	for _, kid := range n.Kids {
		b = append(b, encode(kid)...)
	}
	head := []byte{byte(n.Tag), 130, byte(len(b) >> 8), byte(len(b))}
	switch {
	case len(b) < 128:
		head = []byte{byte(n.Tag), byte(len(b))}
	case len(b) < 256:
		head = []byte{byte(n.Tag), 129, byte(len(b))}
	}
	return append(head, b...)
}

func sameNode(a, b api.Node) bool {
	return a.Tag == b.Tag && bytes.Equal(a.Body, b.Body) && slices.EqualFunc(a.Kids, b.Kids, sameNode)
}

func cloneNode(n api.Node) api.Node {
	n.Body, n.Kids = bytes.Clone(n.Body), slices.Clone(n.Kids)
	for i, kid := range n.Kids {
		n.Kids[i] = cloneNode(kid)
	}
	return n
}

func sameManifest(a, b api.Manifest) bool {
	return a.Number == b.Number && a.This == b.This && a.Next == b.Next && slices.Equal(a.Files, b.Files)
}

func isZero(m api.Manifest) bool {
	return sameManifest(m, api.Manifest{})
}

// cloneManifest leaves memory behind the last file.
func cloneManifest(m api.Manifest) api.Manifest {
	m.Files = slices.Grow(slices.Clone(m.Files), 2)
	return m
}

// but returns another manifest, which change has changed.
func but(m api.Manifest, change func(*api.Manifest)) api.Manifest {
	m = cloneManifest(m)
	change(&m)
	return m
}

// wantTime returns the element of a point in time from 1950 to 2199.
func wantTime(s int64) (api.Node, bool) {
	switch {
	case s < firstTime || s > lastTime:
		return api.Node{}, false
	case s < longTime:
		return api.Node{Tag: 23, Body: []byte(time.Unix(s, 0).UTC().Format("060102150405Z"))}, true
	}
	return api.Node{Tag: 24, Body: []byte(time.Unix(s, 0).UTC().Format("20060102150405Z"))}, true
}

// wantName follows the definition of a valid file name, word by word.
func wantName(s string) bool {
	for _, b := range []byte(s) {
		if !bytes.Contains([]byte(ofNames), []byte{b}) {
			return false
		}
	}
	return len(s) >= 1 && len(s) <= 60 && s[:1] != "."
}

// areFiles asks whether a list that is sorted, and in which each name occurs once, is the same.
func areFiles(l []api.File) bool {
	names := []string{}
	for _, f := range l {
		if !wantName(f.Name) {
			return false
		}
		names = append(names, f.Name)
	}
	sorted := slices.Clone(names)
	slices.Sort(sorted)
	return slices.Equal(names, slices.Compact(sorted)) && len(l) <= 400
}

// wantRight follows the definition of a valid manifest, word by word.
func wantRight(m api.Manifest) bool {
	_, isThis := wantTime(m.This)
	_, isNext := wantTime(m.Next)
	return isThis && isNext && m.This <= m.Next && areFiles(m.Files)
}

// wantNumber returns the element of the shortest two's complement bytes of n.
func wantNumber(n uint32) api.Node {
	b := new(big.Int).SetUint64(uint64(n)).Bytes()
	if len(b) == 0 || b[0] > 127 {
		b = append([]byte{0}, b...)
	}
	return number(b...)
}

// wantNode follows the promise about the element of a valid manifest. For any other one it returns an element that is like this.
func wantNode(m api.Manifest) api.Node {
	this, _ := wantTime(m.This)
	next, _ := wantTime(m.Next)
	files := list()
	for _, f := range m.Files {
		files.Kids = append(files.Kids, list(text(f.Name), bits(f.Hash[:])))
	}
	return list(wantNumber(m.Number), list(this, next), files)
}

func wantBytes(m api.Manifest) []byte {
	return encode(wantNode(m))
}

// reader keeps whether every part so far was right.
type reader struct{ ok bool }

func (r *reader) demand(is bool) {
	r.ok = r.ok && is
}

func (r *reader) number(n api.Node) uint32 {
	value := new(big.Int).SetBytes(n.Body)
	r.demand(value.BitLen() <= 32 && sameNode(wantNumber(uint32(value.Uint64())), n))
	return uint32(value.Uint64())
}

func (r *reader) time(n api.Node) int64 {
	digits := string(n.Body)
	if n.Tag == 23 && digits >= "5" {
		digits = "19" + digits
	} else if n.Tag == 23 {
		digits = "20" + digits
	}
	at, e := time.Parse("20060102150405Z", digits)
	want, ok := wantTime(at.Unix())
	r.demand(e == nil && ok && sameNode(want, n))
	return at.Unix()
}

// list returns so many elements in n, or zero elements if there are more or fewer.
func (r *reader) list(n api.Node, size int) []api.Node {
	r.demand(n.Tag == 48 && len(n.Body) == 0 && len(n.Kids) == size)
	if len(n.Kids) != size {
		return make([]api.Node, size)
	}
	return n.Kids
}

func (r *reader) file(n api.Node) api.File {
	parts := r.list(n, 2)
	f := api.File{Name: string(parts[0].Body)}
	r.demand(parts[0].Tag == 22 && len(parts[0].Kids) == 0)
	r.demand(parts[1].Tag == 3 && len(parts[1].Kids) == 0 && len(parts[1].Body) == 33 && parts[1].Body[0] == 0)
	if r.ok {
		f.Hash = [32]byte(parts[1].Body[1:])
	}
	return f
}

// wantManifest checks every part of an element, instead of encoding again what it has read.
func wantManifest(n api.Node) (api.Manifest, bool) {
	r := reader{ok: true}
	parts := r.list(n, 3)
	times := r.list(parts[1], 2)
	m := api.Manifest{Number: r.number(parts[0]), This: r.time(times[0]), Next: r.time(times[1])}
	for _, kid := range r.list(parts[2], len(parts[2].Kids)) {
		m.Files = append(m.Files, r.file(kid))
	}
	return m, r.ok && m.This <= m.Next && areFiles(m.Files)
}

// changed returns elements that differ from n itself in one thing, each in its own memory.
func changed(n api.Node) []api.Node {
	var l []api.Node
	change := func(f func(*api.Node)) {
		other := cloneNode(n)
		f(&other)
		l = append(l, other)
	}
	for _, tag := range []int{0, 1, 2, 3, 4, 5, 6, 12, 16, 19, 22, 23, 24, 48, 49, 160, n.Tag ^ 32} {
		change(func(n *api.Node) { n.Tag = tag })
	}
	for _, b := range []byte{0, 1, 31, 32, 46, 48, 97, 126, 127, 128, 255} {
		change(func(n *api.Node) { n.Body = append(n.Body, b) })
		change(func(n *api.Node) { n.Body = append([]byte{b}, n.Body...) })
	}
	change(func(n *api.Node) { n.Body = nil })
	for i := range n.Body {
		change(func(n *api.Node) { n.Body = slices.Delete(n.Body, i, i+1) })
		for _, more := range []byte{1, 10, 32, 127, 128, 129, 224, 254, 255} {
			change(func(n *api.Node) { n.Body[i] += more })
		}
	}
	for _, kid := range []api.Node{{Tag: 5}, list(), number(3), number(0), text(""), text("a"), bits(make([]byte, 32)), list(text("z"), bits(make([]byte, 32)))} {
		change(func(n *api.Node) { n.Kids = append(n.Kids, kid) })
		change(func(n *api.Node) { n.Kids = append([]api.Node{kid}, n.Kids...) })
	}
	for i := range n.Kids {
		change(func(n *api.Node) { n.Kids = slices.Delete(n.Kids, i, i+1) })
		change(func(n *api.Node) { n.Kids = n.Kids[:i] })
		change(func(n *api.Node) { n.Kids[i], n.Kids[0] = n.Kids[0], n.Kids[i] })
		change(func(n *api.Node) { n.Kids = slices.Insert(n.Kids, i, cloneNode(n.Kids[i])) })
	}
	return l
}

// changedWithin returns elements that differ from n in one thing, in n itself or in an element within it.
func changedWithin(n api.Node) []api.Node {
	l := changed(n)
	for i, kid := range n.Kids {
		for _, other := range changedWithin(kid) {
			whole := cloneNode(n)
			whole.Kids[i] = other
			l = append(l, whole)
		}
	}
	return l
}

// withByte returns b with another byte at i.
func withByte(b []byte, i int, value byte) []byte {
	b = slices.Clone(b)
	b[i] = value
	return b
}
