package sha_test

import (
	"bytes"
	"crypto/sha256"
	"encoding/hex"
	"math/rand"
	"slices"
	"strings"
	"testing"

	"lanyard/octet"
	"lanyard/sha"
)

// knownHashes were published with the standard, or are those of the document.
func knownHashes() []knownHash {
	return []knownHash{
		{"", "e3b0c44298fc1c149afbf4c8996fb92427ae41e4649b934ca495991b7852b855"},
		{"abc", "ba7816bf8f01cfea414140de5dae2223b00361a396177a9cb410ff61f20015ad"},
		{"abcdbcdecdefdefgefghfghighijhijkijkljklmklmnlmnomnopnopq", "248d6a61d20638b8e5c026930c3e6039a33ce45964ff2167f6ecedd419db06c1"},
		{
			"abcdefghbcdefghicdefghijdefghijkefghijklfghijklmghijklmnhijklmnoijklmnopjklmnopqklmnopqrlmnopqrsmnopqrstnopqrstu",
			"cf5b16a778af8380036ce59e7b0492370b249b11e8f07a51afac45037afee9d1",
		},
		{"\xbd", "68325720aabd7c82f30f554b313d0570c95accbb7dc4b5aae11204c08ffe732b"},
		{"\xc9\x8c\x8e\x55", "7abc22c0ae5af26ce93dbb94433a0e0b2e119d014f8e7f65bd56c61ccccd9504"},
		{"The quick brown fox jumps over the lazy dog", "d7a8fbb307d7809469ca9abcb0082e4f8d5651e46d3cdb762d02d0bf37c9e592"},
		{strings.Repeat("\x00", 55), "02779466cdec163811d078815c633f21901413081449002f24aa3e80f0b88ef7"},
		{strings.Repeat("\x00", 56), "d4817aa5497628e7c77e6b606107042bbba3130888c5f47a375e6179be789fbb"},
		{strings.Repeat("\x00", 57), "65a16cb7861335d5ace3c60718b5052e44660726da4cd13bb745381b235a1785"},
		{strings.Repeat("\x00", 64), "f5a5fd42d16a20302798ef6ed309979b43003d2320d9f0e8ea9831a92759fb4b"},
		{strings.Repeat("\x00", 1000), "541b3e9daa09b20bf85fa273e5cbd3e80185aa4ec298e765db87742b70138a53"},
		{strings.Repeat("\x41", 1000), "c2e686823489ced2017f6059b8b239318b6364f6dcd835d0a519105a1eadd6e4"},
		{strings.Repeat("\x55", 1005), "f4d62ddec0f3dd90ea1380fa16a5ff8dc4c54b21740650f24afc4120903552b0"},
		{strings.Repeat("a", 1000000), "cdc76e5c9914fb9281a1c7e284d73e67f1809a48a497200e046d39ccc7112cd0"},
		{strings.Repeat("\x00", 1000000), "d29751f2649b32ff572b5e0a9f541ea660a50f94ff0beedfb0b692b924cc8025"},
	}
}

type knownHash struct{ text, digits string }

// randomBytes are the same ones in every run.
func randomBytes(seed int64, size int) []byte {
	b := make([]byte, size)
	rand.New(rand.NewSource(seed)).Read(b)
	return b
}

// blockEdges are numbers of bytes around those at which a block, or what the padding leaves of one, is full.
func blockEdges() []int {
	var l []int
	for _, border := range []int{0, 56, 64, 120, 128, 184, 192, 256} {
		for size := max(border-2, 0); size <= border+2; size++ {
			l = append(l, size)
		}
	}
	return l
}

// written returns a Hash to which the parts have been written.
func written(parts ...[]byte) *sha.Hash {
	h := sha.New()
	for _, part := range parts {
		h.Write(part)
	}
	return h
}

func isSum(t *testing.T, name string, h *sha.Hash, all []byte) {
	t.Helper()
	if got, want := h.Sum(), sha256.Sum256(all); got != want {
		t.Errorf("%s: Sum of %d bytes is %x, want %x", name, len(all), got, want)
	}
}

func isHash(t *testing.T, b []byte) {
	t.Helper()
	if got, want := sha.Of(b), sha256.Sum256(b); got != want {
		t.Errorf("Of %d bytes is %x, want %x", len(b), got, want)
	}
}

// P6.1

func TestOfKnownBytes(t *testing.T) {
	for _, k := range knownHashes() {
		sum := sha.Of([]byte(k.text))
		if got := hex.EncodeToString(sum[:]); got != k.digits {
			t.Errorf("Of %d bytes is %s, want %s", len(k.text), got, k.digits)
		}
	}
}

func TestOfNothing(t *testing.T) {
	isHash(t, nil)
	isHash(t, []byte{})
	if sha.Of(nil) != sha.Of([]byte{}) {
		t.Error("nil and empty have different hashes")
	}
}

func TestOfEveryNumberOfBytes(t *testing.T) {
	b := randomBytes(1, 700)
	ones := bytes.Repeat([]byte{255}, 700)
	pads := bytes.Repeat([]byte{128}, 700) // each byte is like the first one of the padding
	for size := range 701 {
		isHash(t, b[:size])
		isHash(t, make([]byte, size))
		isHash(t, ones[:size])
		isHash(t, pads[:size])
	}
}

func TestOfEveryByte(t *testing.T) {
	for v := range 256 {
		for _, size := range []int{1, 55, 56, 64} {
			isHash(t, bytes.Repeat([]byte{byte(v)}, size))
		}
	}
}

func TestOfEveryBit(t *testing.T) {
	for bit := range 8 * 128 {
		b := make([]byte, 128)
		b[bit/8] = 1 << (bit % 8)
		isHash(t, b)
	}
}

func TestOfLongBytes(t *testing.T) {
	r := rand.New(rand.NewSource(2))
	for seed := range int64(200) {
		isHash(t, randomBytes(seed, r.Intn(20001)))
	}
	isHash(t, randomBytes(3, 8191)) // 65528 bits
	isHash(t, randomBytes(3, 8192)) // 65536 bits
	isHash(t, randomBytes(3, 1<<21-1))
	isHash(t, randomBytes(3, 1<<21)) // 2^24 bits
}

// More than 2^32 bits: the length needs its upper four bytes.
func TestLengthOfMoreThanFourBytes(t *testing.T) {
	part := randomBytes(4, 1<<20)
	h, other := sha.New(), sha256.New()
	for range 1 << 9 {
		h.Write(part)
		other.Write(part)
	}
	h.Write([]byte("more"))
	other.Write([]byte("more"))
	if got := h.Sum(); !bytes.Equal(got[:], other.Sum(nil)) {
		t.Errorf("Sum of 2^29 + 4 bytes is %x, want %x", got, other.Sum(nil))
	}
}

// P6.2

func TestNewHasNoBytes(t *testing.T) {
	isSum(t, "New", sha.New(), nil)
	used := written([]byte("abc"))
	isSum(t, "New after another one", sha.New(), nil)
	isSum(t, "the other one", used, []byte("abc"))
}

func TestWriteOfNothing(t *testing.T) {
	isSum(t, "nil alone", written(nil), nil)
	isSum(t, "empty alone", written([]byte{}), nil)
	for _, size := range blockEdges() {
		b := randomBytes(5, size)
		isSum(t, "nothing ahead", written(nil, []byte{}, b), b)
		isSum(t, "nothing behind", written(b, nil, []byte{}, nil), b)
		isSum(t, "nothing between", written(b[:size/2], nil, b[size/2:]), b)
	}
}

func TestWriteAppends(t *testing.T) {
	isSum(t, "ab and c", written([]byte("ab"), []byte("c")), []byte("abc"))
	isSum(t, "c and ab", written([]byte("c"), []byte("ab")), []byte("cab"))
	part := randomBytes(6, 64)
	isSum(t, "the same block again", written(part, part, part), slices.Concat(part, part, part))
}

func TestSumChangesNothing(t *testing.T) {
	for _, size := range blockEdges() {
		b := randomBytes(7, size+100)
		h := written(b[:size])
		before := *h
		for range 3 {
			isSum(t, "once more", h, b[:size])
		}
		if *h != before {
			t.Errorf("Sum changed a Hash of %d bytes", size)
		}
		h.Write(b[size:])
		isSum(t, "after more bytes", h, b)
	}
}

func TestSumsBelongToTheCaller(t *testing.T) {
	h := written([]byte("abc"))
	first := h.Sum()
	clear(first[:])
	isSum(t, "after the first sum was cleared", h, []byte("abc"))
	isHash(t, []byte("abc"))
}

func TestHashesAreApart(t *testing.T) {
	a, b := randomBytes(8, 300), randomBytes(9, 300)
	first, second := sha.New(), sha.New()
	for i := range 300 {
		first.Write(a[i : i+1])
		second.Write(b[i : i+1])
		isHash(t, a[i:])
		isSum(t, "the first", first, a[:i+1])
		isSum(t, "the second", second, b[:i+1])
	}
}

// P6.3

func TestName(t *testing.T) {
	for _, k := range knownHashes() {
		if got := sha.Name([]byte(k.text)); got != k.digits[:40] {
			t.Errorf("Name of %d bytes is %q, want %q", len(k.text), got, k.digits[:40])
		}
	}
	for _, size := range blockEdges() {
		b := randomBytes(10, size)
		sum := sha256.Sum256(b)
		if got, want := sha.Name(b), octet.Hex(sum[:20]); got != want {
			t.Errorf("Name of %d bytes is %q, want %q", size, got, want)
		}
	}
	if sha.Name(nil) != sha.Name([]byte{}) {
		t.Error("nil and empty have different names")
	}
}

// P6.4

func TestEveryDivisionInTwo(t *testing.T) {
	b := randomBytes(11, 330)
	for size := range len(b) + 1 {
		for end := range size + 1 {
			isSum(t, "two parts", written(b[:end], b[end:size]), b[:size])
		}
	}
}

func TestDivisionsInThree(t *testing.T) {
	b := randomBytes(12, 260)
	for _, size := range blockEdges() {
		for _, first := range blockEdges() {
			for _, second := range blockEdges() {
				if first <= second && second <= size {
					isSum(t, "three parts", written(b[:first], b[first:second], b[second:size]), b[:size])
				}
			}
		}
	}
}

func TestPartsOfTheSameSize(t *testing.T) {
	b := randomBytes(13, 1500)
	for step := 1; step <= 200; step++ {
		h := sha.New()
		for part := range slices.Chunk(b, step) {
			h.Write(part)
		}
		isSum(t, "equal parts", h, b)
	}
}

func TestSumAfterEveryByte(t *testing.T) {
	b := randomBytes(14, 400)
	h := sha.New()
	for i := range b {
		isSum(t, "between", h, b[:i])
		h.Write(b[i : i+1])
	}
	isSum(t, "all bytes", h, b)
}

func TestRandomDivisions(t *testing.T) {
	r := rand.New(rand.NewSource(15))
	for range 500 {
		b := make([]byte, r.Intn(2000))
		r.Read(b)
		h := sha.New()
		most := 1 + r.Intn(300)
		for done := 0; done < len(b); {
			size := min(r.Intn(most+1), len(b)-done)
			h.Write(b[done : done+size])
			done += size
			for range r.Intn(3) {
				isSum(t, "between", h, b[:done])
			}
		}
		isSum(t, "all parts", h, b)
	}
}

// R3 and R4

func TestArgumentsAreNeitherChangedNorKept(t *testing.T) {
	for _, size := range blockEdges() {
		want := randomBytes(16, size)
		// Room behind the bytes shows whether anything, such as the padding, is written there.
		room := append(bytes.Clone(want), bytes.Repeat([]byte{77}, 200)...)
		whole := bytes.Clone(room)
		b := room[:size]
		h := written(b)
		h.Sum()
		sha.Of(b)
		sha.Name(b)
		if !bytes.Equal(room, whole) {
			t.Fatalf("bytes were changed by a call with %d of them", size)
		}
		clear(room)
		isSum(t, "after the argument was cleared", h, want)
		h.Write(want)
		isSum(t, "and more was written", h, slices.Concat(want, want))
		if slices.ContainsFunc(room, func(v byte) bool { return v != 0 }) {
			t.Errorf("a later call changed an argument of %d bytes", size)
		}
	}
}

func TestPartsFromOneBuffer(t *testing.T) {
	b := randomBytes(17, 1000)
	h := sha.New()
	buffer := make([]byte, 37)
	for part := range slices.Chunk(b, len(buffer)) {
		h.Write(buffer[:copy(buffer, part)])
	}
	isSum(t, "parts from one buffer", h, b)
}

func TestEarlierCallsChangeNothing(t *testing.T) {
	b := []byte("some bytes")
	sum, name := sha.Of(b), sha.Name(b)
	written(randomBytes(18, 1000)).Sum()
	sha.Of(randomBytes(19, 100))
	if sha.Of(b) != sum || sha.Name(b) != name {
		t.Error("the same bytes have another hash later")
	}
}
