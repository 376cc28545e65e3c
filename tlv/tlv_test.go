package tlv_test

import (
	"bytes"
	"math"
	"math/rand"
	"testing"

	"lanyard/api"
	"lanyard/tlv"
)

func primitive(tag int, body ...byte) api.Node { return api.Node{Tag: tag, Body: body} }

func sequence(kids ...api.Node) api.Node { return api.Node{Tag: api.TagSeq, Kids: kids} }

func sized(size int) api.Node {
	return primitive(api.TagBytes, bytes.Repeat([]byte{7}, size)...)
}

// nested returns an element of the given depth.
func nested(deep int, inmost api.Node) api.Node {
	for range deep - 1 {
		inmost = sequence(inmost)
	}
	return inmost
}

// wrapped returns encoded bytes within so many sequences, whatever the bytes are.
func wrapped(levels int, b []byte) []byte {
	for range levels {
		b = append(header(api.TagSeq, len(b)), b...)
	}
	return b
}

func header(tag byte, size int) []byte {
	switch {
	case size < 128:
		return []byte{tag, byte(size)}
	case size < 256:
		return []byte{tag, 129, byte(size)}
	}
	return []byte{tag, 130, byte(size >> 8), byte(size)}
}

func concat(parts ...[]byte) []byte { return bytes.Join(parts, nil) }

// same takes nil and empty lists as equal.
func same(a, b api.Node) bool {
	if a.Tag != b.Tag || !bytes.Equal(a.Body, b.Body) || len(a.Kids) != len(b.Kids) {
		return false
	}
	for i := range a.Kids {
		if !same(a.Kids[i], b.Kids[i]) {
			return false
		}
	}
	return true
}

func isSize(t *testing.T, name string, n api.Node, size, many, deep int) {
	t.Helper()
	if gotSize, gotMany, gotDeep := tlv.Size(n); gotSize != size || gotMany != many || gotDeep != deep {
		t.Errorf("%s: Size is %d, %d, %d, want %d, %d, %d", name, gotSize, gotMany, gotDeep, size, many, deep)
	}
}

func isWritten(t *testing.T, name string, n api.Node, want []byte) {
	t.Helper()
	if b, e := tlv.Write(n); e != api.OK || !bytes.Equal(b, want) {
		t.Errorf("%s: Write is %d bytes and %v, want %d bytes", name, len(b), e, len(want))
	}
}

func isNotWritten(t *testing.T, name string, n api.Node, want api.Errno) {
	t.Helper()
	if b, e := tlv.Write(n); e != want || len(b) != 0 {
		t.Errorf("%s: Write is %d bytes and %v, want %v", name, len(b), e, want)
	}
}

func isRead(t *testing.T, name string, b []byte, want api.Node) {
	t.Helper()
	if n, e := tlv.Read(b); e != api.OK || !same(n, want) {
		t.Errorf("%s: Read is %v and %v, want %v", name, n, e, want)
	}
}

func isNotRead(t *testing.T, name string, b []byte, want api.Errno) {
	t.Helper()
	if n, e := tlv.Read(b); e != want || !same(n, api.Node{}) {
		t.Errorf("%s: Read is %v and %v, want %v", name, n, e, want)
	}
}

// both checks one element and its encoding in either direction.
func both(t *testing.T, name string, n api.Node, b []byte) {
	t.Helper()
	isWritten(t, name, n, b)
	isRead(t, name, b, n)
}

// P4.1

func TestSizeOfPrimitives(t *testing.T) {
	for _, c := range []struct{ body, size int }{
		{0, 2}, {1, 3}, {2, 4}, {126, 128}, {127, 129}, {128, 131}, {129, 132}, {254, 257}, {255, 258},
		{256, 260}, {257, 261}, {19996, 20000}, {19997, 20001}, {65535, 65539}, {65536, 65540}, {1 << 20, 1<<20 + 4},
	} {
		isSize(t, "a primitive", sized(c.body), c.size, 1, 1)
	}
}

func TestSizeOfConstructed(t *testing.T) {
	isSize(t, "empty", sequence(), 2, 1, 1)
	isSize(t, "one", sequence(primitive(2, 5)), 5, 2, 2)
	isSize(t, "two", sequence(primitive(2, 5), primitive(5)), 7, 3, 2)
	isSize(t, "nested", sequence(sequence(primitive(2, 5)), primitive(5)), 9, 4, 3)
	isSize(t, "the second is the deepest", sequence(primitive(5), sequence(sequence(), sequence(sequence()))), 12, 6, 4)
	isSize(t, "127 bytes within", sequence(sized(125)), 129, 2, 2)
	isSize(t, "128 bytes within", sequence(sized(126)), 131, 2, 2)
	isSize(t, "255 bytes within", sequence(sized(100), sized(150)), 258, 3, 2)
	isSize(t, "256 bytes within", sequence(sized(100), sized(151)), 260, 3, 2)
	isSize(t, "65536 bytes within", sequence(sized(65532)), 65540, 2, 2)
	isSize(t, "a set within 160", api.Node{Tag: 160, Kids: []api.Node{{Tag: 49}}}, 4, 2, 2)
}

func TestSizeIgnoresWhatIsNoContents(t *testing.T) {
	kids := []api.Node{primitive(2, 5), sequence(primitive(5))}
	isSize(t, "a Body in a constructed one", api.Node{Tag: 48, Body: make([]byte, 300)}, 2, 1, 1)
	isSize(t, "Body and Kids in a constructed one", api.Node{Tag: 48, Body: make([]byte, 300), Kids: kids}, 9, 4, 3)
	isSize(t, "Kids in a primitive one", api.Node{Tag: 2, Kids: kids}, 2, 1, 1)
	isSize(t, "Body and Kids in a primitive one", api.Node{Tag: 2, Body: []byte{1}, Kids: kids}, 3, 1, 1)
	isSize(t, "within another one", sequence(api.Node{Tag: 2, Kids: kids}, api.Node{Tag: 49, Body: []byte{1, 2}}), 6, 3, 2)
	isSize(t, "no Node at all", api.Node{}, 2, 1, 1)
}

func TestSizeOfTagsThatAreNone(t *testing.T) {
	kids := []api.Node{primitive(2, 5)}
	for tag, constructed := range map[int]bool{
		-1: false, -32: false, -33: false, -208: false, -256: false, math.MinInt: false, math.MinInt + 32: false,
		31: false, 63: true, 95: false, 127: true, 255: true, 256: false, 256 + 32: true, 1<<40 + 32: true, 1 << 40: false, math.MaxInt: true,
	} {
		n := api.Node{Tag: tag, Body: []byte{1, 2}, Kids: kids}
		if constructed {
			isSize(t, "constructed", n, 5, 2, 2)
		} else {
			isSize(t, "primitive", n, 4, 1, 1)
		}
	}
}

func TestSizeOfDeepAndWideNodes(t *testing.T) {
	size, deep := 2, 1<<16
	for range deep - 1 {
		size += len(header(48, size))
	}
	isSize(t, "65536 levels", nested(deep, primitive(5)), size, deep, deep)
	isSize(t, "100000 beside one another", sequence(make([]api.Node, 100000)...), 200004, 100001, 2)
	shared := primitive(2, 5)
	for range 16 {
		shared = sequence(shared, shared)
	}
	if _, many, deep := tlv.Size(shared); many != 1<<17-1 || deep != 17 {
		t.Errorf("shared elements: %d, %d", many, deep)
	}
}

// P4.2

func TestElementsAndEncodings(t *testing.T) {
	both(t, "the example", sequence(primitive(2, 5)), []byte{48, 3, 2, 1, 5})
	both(t, "null", primitive(5), []byte{5, 0})
	both(t, "tag zero", primitive(0, 1), []byte{0, 1, 1})
	both(t, "the greatest tag", api.Node{Tag: 254}, []byte{254, 0})
	both(t, "empty sequence", sequence(), []byte{48, 0})
	both(t, "order of kids", sequence(primitive(1, 255), sequence(primitive(22, 'a'), sequence()), primitive(5)), []byte{48, 12, 1, 1, 255, 48, 5, 22, 1, 'a', 48, 0, 5, 0})
	both(t, "a body like an element", primitive(4, 48, 3, 2, 1, 5), []byte{4, 5, 48, 3, 2, 1, 5})
	both(t, "160", api.Node{Tag: 160, Kids: []api.Node{primitive(2, 0)}}, []byte{160, 3, 2, 1, 0})
	both(t, "128", primitive(128, 1, 2), []byte{128, 2, 1, 2})
}

func TestEveryLengthOfContents(t *testing.T) {
	for _, size := range []int{0, 1, 2, 126, 127, 128, 129, 130, 131, 254, 255, 256, 257, 383, 384, 511, 512, 513, 1000, 4096, 19995, 19996} {
		body := bytes.Repeat([]byte{7}, size)
		both(t, "primitive", primitive(4, body...), concat(header(4, size), body))
	}
	for size := 2; size < 700; size++ {
		kids := []api.Node{primitive(2, 5, 6), primitive(5)}
		var contents []byte
		if size%2 == 1 {
			kids, contents = []api.Node{primitive(2, 5)}, []byte{2, 1, 5}
		} else {
			kids, contents = kids[1:], []byte{5, 0}
		}
		for len(contents) < size {
			kids, contents = append(kids, sequence()), append(contents, 48, 0)
		}
		both(t, "constructed", api.Node{Tag: 49, Kids: kids}, concat(header(49, size), contents))
	}
}

func TestWriteRefusesOtherForms(t *testing.T) {
	kids, body := []api.Node{primitive(5)}, []byte{1}
	for name, n := range map[string]api.Node{
		"Body in a constructed one":      {Tag: 48, Body: body},
		"Body and Kids in a constructed": {Tag: 48, Body: body, Kids: kids},
		"Kids in a primitive one":        {Tag: 2, Kids: kids},
		"Body and Kids in a primitive":   {Tag: 2, Body: body, Kids: kids},
		"a tag of several bytes":         {Tag: 31},
		"a constructed one of these":     {Tag: 63, Kids: kids},
		"a number that is no byte":       {Tag: 256},
		"a negative number":              {Tag: -1},
		"a negative one with Kids":       {Tag: -208, Kids: kids},
		"the least number":               {Tag: math.MinInt},
		"a great number":                 {Tag: 1<<40 + 2, Body: body},
	} {
		isNotWritten(t, name, n, api.ErrForm)
		isNotWritten(t, name+", first within", sequence(n, primitive(5)), api.ErrForm)
		isNotWritten(t, name+", last within", sequence(primitive(5), sequence(primitive(5), n)), api.ErrForm)
		isNotWritten(t, name+", too deep", nested(60, n), api.ErrForm)
		isNotWritten(t, name+", too deep elsewhere", sequence(nested(60, primitive(5)), n), api.ErrForm)
		isNotWritten(t, name+", too large", sequence(sized(30000), n), api.ErrForm)
		isNotWritten(t, name+", too deep and too large", sequence(sized(30000), nested(60, n)), api.ErrForm)
	}
}

func TestEveryTag(t *testing.T) {
	for tag := -600; tag <= 600; tag++ {
		n := api.Node{Tag: tag}
		if tag < 0 || tag > 255 || tag%32 == 31 {
			isNotWritten(t, "no tag", n, api.ErrForm)
			isNotWritten(t, "no tag within", sequence(n), api.ErrForm)
			continue
		}
		both(t, "a tag", n, []byte{byte(tag), 0})
		filled := []byte{byte(tag), 2, 5, 0}
		if tag/32%2 == 1 {
			both(t, "a constructed tag", api.Node{Tag: tag, Kids: []api.Node{primitive(5)}}, filled)
		} else {
			both(t, "a primitive tag", primitive(tag, 5, 0), filled)
		}
	}
}

func TestWriteTakesEmptyAsNil(t *testing.T) {
	isWritten(t, "empty Body", api.Node{Tag: 48, Body: []byte{}}, []byte{48, 0})
	isWritten(t, "empty Kids", api.Node{Tag: 5, Kids: []api.Node{}}, []byte{5, 0})
	isWritten(t, "all empty", api.Node{Tag: 48, Body: []byte{}, Kids: []api.Node{{Tag: 5, Body: []byte{}, Kids: []api.Node{}}}}, []byte{48, 2, 5, 0})
}

func TestDepth(t *testing.T) {
	for deep := 1; deep <= 32; deep++ {
		both(t, "deep", nested(deep, primitive(2, 5)), wrapped(deep-1, []byte{2, 1, 5}))
		both(t, "deep and empty", nested(deep, sequence()), wrapped(deep-1, []byte{48, 0}))
	}
	for _, deep := range []int{33, 34, 40, 100, 1 << 16} {
		isNotWritten(t, "too deep", nested(deep, primitive(2, 5)), api.ErrDeep)
		isNotWritten(t, "too deep and empty", nested(deep, sequence()), api.ErrDeep)
	}
	isNotWritten(t, "too deep in its last kid", sequence(primitive(5), nested(32, primitive(5))), api.ErrDeep)
	isNotWritten(t, "too deep in its first kid", sequence(nested(32, primitive(5)), primitive(5)), api.ErrDeep)
	isNotWritten(t, "too deep and too large", nested(33, sized(30000)), api.ErrDeep)
	isNotWritten(t, "too deep beside too large", sequence(sized(30000), nested(32, primitive(5))), api.ErrDeep)
}

func TestWriteRefusesTooManyBytes(t *testing.T) {
	isNotWritten(t, "20001 bytes", sized(19997), api.ErrLarge)
	isNotWritten(t, "20001 bytes in two", sequence(sized(9992), sized(9997)), api.ErrLarge)
	isNotWritten(t, "65536 bytes within", sized(65536), api.ErrLarge)
	isNotWritten(t, "65541 bytes within", sized(65541), api.ErrLarge)
	isNotWritten(t, "many", sequence(make([]api.Node, 9999)...), api.ErrLarge)
	isNotWritten(t, "deep", nested(32, sized(19997)), api.ErrLarge)
	both(t, "20000 bytes in two", sequence(sized(9992), sized(9996)), concat([]byte{48, 130, 78, 28}, header(4, 9992), bytes.Repeat([]byte{7}, 9992), header(4, 9996), bytes.Repeat([]byte{7}, 9996)))
	both(t, "many", sequence(make([]api.Node, 9998)...), concat(header(48, 19996), make([]byte, 19996)))
}

// P4.3

func TestReadRefusesBytesThatEndTooEarly(t *testing.T) {
	for name, b := range map[string][]byte{
		"nothing":                             nil,
		"an empty slice":                      {},
		"a tag alone":                         {2},
		"a constructed tag alone":             {48},
		"no byte of the contents":             {2, 1},
		"one byte too few":                    {2, 2, 5},
		"one byte too few in a sequence":      {48, 3, 2, 1},
		"no byte after 129":                   {2, 129},
		"no byte after 130":                   {2, 130},
		"one byte after 130":                  {2, 130, 1},
		"one byte after 130, too small":       {2, 130, 0},
		"length of one byte":                  append([]byte{2, 129, 128}, make([]byte, 127)...),
		"length of two bytes":                 append([]byte{2, 130, 1, 0}, make([]byte, 255)...),
		"the greatest length":                 {2, 130, 255, 255},
		"a greatest length with 19996 bytes":  append([]byte{2, 130, 255, 255}, make([]byte, 19996)...),
		"a fault within what is too short":    {48, 4, 31, 0, 0},
		"a length fault within the too short": {48, 5, 2, 128, 0},
	} {
		isNotRead(t, name, b, api.ErrShort)
	}
}

func TestReadRefusesOtherForms(t *testing.T) {
	for name, b := range map[string][]byte{
		"a tag of several bytes":           {31},
		"such a tag with a length":         {31, 0},
		"a constructed one":                {63, 0},
		"the greatest byte":                {255},
		"the length of no end":             {48, 128, 5, 0, 0, 0},
		"128":                              {2, 128},
		"131":                              {2, 131, 0, 1, 0},
		"131 alone":                        {2, 131},
		"132":                              {2, 132, 0, 0, 1, 0},
		"255":                              {2, 255},
		"129 and 0":                        {2, 129, 0},
		"129 and 1":                        {2, 129, 1, 5},
		"129 and 127":                      append([]byte{2, 129, 127}, make([]byte, 127)...),
		"129 and 127, and no contents":     {2, 129, 127},
		"130 and 0":                        {2, 130, 0, 0},
		"130 and 127, and no contents":     {2, 130, 0, 127},
		"130 and 255":                      append([]byte{2, 130, 0, 255}, make([]byte, 255)...),
		"130 and 255, and no contents":     {2, 130, 0, 255},
		"a byte behind":                    {5, 0, 0},
		"a byte behind a sequence":         {48, 3, 2, 1, 5, 9},
		"an element behind":                {5, 0, 5, 0},
		"20000 bytes, and one is too many": append([]byte{2, 130, 78, 27}, make([]byte, 19996)...),
	} {
		isNotRead(t, name, b, api.ErrForm)
	}
}

func TestReadRefusesOtherFormsWithin(t *testing.T) {
	for name, b := range map[string][]byte{
		"a tag alone":                   {2},
		"a constructed tag alone":       {48},
		"contents too short":            {2, 2, 5},
		"no byte of the contents":       {2, 1},
		"no byte after 129":             {2, 129},
		"one byte after 130":            {2, 130, 1},
		"no tag":                        {31, 0},
		"128":                           {48, 128, 0, 0},
		"129 and 1":                     {2, 129, 1, 5},
		"130 and 255, no contents":      {2, 130, 0, 255},
		"a byte behind":                 {5, 0, 5},
		"the next one goes over":        {5, 0, 2, 1},
		"the greatest length":           {2, 130, 255, 255},
		"a sequence that is too short":  {48, 2, 5},
		"a fault in a sequence":         {48, 2, 5, 1},
		"a fault in the last of three":  {48, 6, 5, 0, 5, 0, 5, 1},
		"a fault in the first of three": {48, 6, 31, 0, 5, 0, 5, 0},
	} {
		for levels := 1; levels <= 30; levels++ { // so that nothing in it is too deep
			isNotRead(t, name, wrapped(levels, b), api.ErrForm)
			isNotRead(t, name+", and one behind", concat(wrapped(levels, b), []byte{5, 0}), api.ErrForm)
		}
	}
	// The bytes that the inner element lacks are there, but behind the outer one.
	isNotRead(t, "over the end", []byte{48, 3, 2, 2, 5, 6}, api.ErrForm)
	isNotRead(t, "over the end of the inner one", []byte{48, 6, 48, 3, 2, 2, 5, 6}, api.ErrForm)
	isNotRead(t, "the document's", []byte{48, 3, 2, 2, 5}, api.ErrForm)
}

func TestReadOfElementsThatLieTooDeep(t *testing.T) {
	for _, levels := range []int{32, 33, 100} {
		isNotRead(t, "null", wrapped(levels, []byte{5, 0}), api.ErrDeep)
		isNotRead(t, "a sequence", wrapped(levels, []byte{48, 0}), api.ErrDeep)
	}
	isNotRead(t, "as deep as bytes go", wrapped(5000, nil), api.ErrDeep)
	isNotRead(t, "deep and then another fault", wrapped(32, []byte{5, 0, 31, 0}), api.ErrDeep)
	isNotRead(t, "a fault within what is too deep", wrapped(32, []byte{48, 2, 31, 0}), api.ErrDeep)
	isNotRead(t, "deep and then a byte behind", concat(wrapped(32, []byte{5, 0}), []byte{0}), api.ErrDeep)
	isNotRead(t, "deep, but cut off", wrapped(40, []byte{5, 0})[:81], api.ErrShort)
	isNotRead(t, "deep in the last one", wrapped(1, concat([]byte{5, 0}, wrapped(31, []byte{5, 0}))), api.ErrDeep)
	isNotRead(t, "another fault, and then deep", wrapped(1, concat([]byte{31, 0}, wrapped(31, []byte{5, 0}))), api.ErrForm)
	isNotRead(t, "deep, and then another fault outside", wrapped(1, concat(wrapped(31, []byte{5, 0}), []byte{31, 0})), api.ErrDeep)
	// What comes ahead of the depth in the order: the head of the element, and its length.
	for name, b := range map[string][]byte{"no tag": {31, 0}, "no length": {5}, "128": {5, 128}, "129 and 0": {5, 129, 0}, "too long": {5, 1}} {
		isNotRead(t, name+" at a depth of 33", wrapped(32, b), api.ErrForm)
	}
}

func TestReadRefusesTooManyBytes(t *testing.T) {
	for name, head := range map[string][]byte{
		"an element": {4, 130, 78, 29}, "no tag": {31}, "no length": {4, 128}, "cut off": {4, 130, 255, 255}, "a byte behind": {4, 130, 78, 28}, "noughts": nil,
	} {
		isNotRead(t, name, append(head, make([]byte, 20001-len(head))...), api.ErrLarge)
		isNotRead(t, name, append(head, make([]byte, 70000)...), api.ErrLarge)
	}
	isNotRead(t, "too deep", concat(wrapped(40, []byte{5, 0}), make([]byte, 20000)), api.ErrLarge)
	isNotRead(t, "20000 bytes of which two are an element", make([]byte, 20000), api.ErrForm)
}

// smallElements returns the elements with encodings of at most size bytes, all of them among values, by these encodings.
func smallElements(size int, values []byte) map[string]api.Node {
	found := map[string]api.Node{}
	if size < 2 {
		return found
	}
	bodies, lists := bytesUpTo(size-2, values), listsUpTo(size-2, values)
	for _, tag := range values {
		if tag%32 == 31 {
			continue
		}
		if tag&32 == 0 {
			for _, body := range bodies {
				found[string(concat([]byte{tag, byte(len(body))}, body))] = primitive(int(tag), body...)
			}
			continue
		}
		for text, kids := range lists {
			found[string([]byte{tag, byte(len(text))})+text] = api.Node{Tag: int(tag), Kids: kids}
		}
	}
	// A length that is not among the values is none of an encoding that was asked for.
	for text := range found {
		if !bytes.Contains(values, []byte{text[1]}) {
			delete(found, text)
		}
	}
	return found
}

// listsUpTo returns the lists of elements with encodings of at most size bytes in total.
func listsUpTo(size int, values []byte) map[string][]api.Node {
	found := map[string][]api.Node{"": nil}
	for first, kid := range smallElements(size, values) {
		for text, others := range listsUpTo(size-len(first), values) {
			found[first+text] = append([]api.Node{kid}, others...)
		}
	}
	return found
}

func bytesUpTo(most int, values []byte) [][]byte {
	all, last := [][]byte{nil}, [][]byte{nil}
	for range most {
		var longer [][]byte
		for _, b := range last {
			for _, v := range values {
				longer = append(longer, concat(b, []byte{v}))
			}
		}
		all, last = append(all, longer...), longer
	}
	return all
}

func TestReadTakesExactlyTheEncodings(t *testing.T) {
	values := []byte{0, 1, 2, 3, 4, 31, 48}
	known := smallElements(6, values)
	taken := 0
	for _, b := range bytesUpTo(6, values) {
		want, is := known[string(b)]
		n, e := tlv.Read(b)
		if is != (e == api.OK) || !same(n, want) {
			t.Fatalf("Read(%v) = %v, %v, want %v, %v", b, n, e, want, is)
		}
		if is {
			taken++
		}
	}
	if taken != len(known) || taken < 1000 {
		t.Errorf("%d of %d elements have been read", taken, len(known))
	}
}

// plainRead says what P4.3 says, step by step, by return values alone. The int is where the element ends.
func plainRead(b []byte, start, end, around int) (api.Node, int, api.Errno) {
	short := api.ErrShort
	if around > 0 {
		short = api.ErrForm
	}
	none := api.Node{}
	switch {
	case start == end:
		return none, 0, short
	case b[start]%32 == 31:
		return none, 0, api.ErrForm
	case start+1 == end:
		return none, 0, short
	}
	size, from := int(b[start+1]), start+2
	if size >= 128 {
		more := size - 128
		if more != 1 && more != 2 {
			return none, 0, api.ErrForm
		}
		if from+more > end {
			return none, 0, short
		}
		size = 0
		for _, v := range b[from : from+more] {
			size = size*256 + int(v)
		}
		from += more
		if more == 1 && size < 128 || more == 2 && size < 256 {
			return none, 0, api.ErrForm
		}
	}
	if from+size > end {
		return none, 0, short
	}
	if around >= 32 {
		return none, 0, api.ErrDeep
	}
	n := api.Node{Tag: int(b[start])}
	if n.Tag/32%2 == 0 {
		n.Body = b[from : from+size]
		return n, from + size, api.OK
	}
	for at := from; at < from+size; {
		kid, next, e := plainRead(b, at, from+size, around+1)
		if e != api.OK {
			return none, 0, e
		}
		n.Kids, at = append(n.Kids, kid), next
	}
	return n, from + size, api.OK
}

func plainReadWhole(b []byte) (api.Node, api.Errno) {
	if len(b) > 20000 {
		return api.Node{}, api.ErrLarge
	}
	n, end, e := plainRead(b, 0, len(b), 0)
	if e == api.OK && end != len(b) {
		return api.Node{}, api.ErrForm
	}
	return n, e
}

func TestReadOfBytesThatWereChanged(t *testing.T) {
	r := rand.New(rand.NewSource(11))
	counts := map[api.Errno]int{}
	for range 40000 {
		b, e := tlv.Write(randomNode(r, 1+r.Intn(5), 12))
		if e != api.OK {
			t.Fatal(e)
		}
		if r.Intn(4) == 0 {
			b = wrapped(r.Intn(36), b)
		}
		for range r.Intn(4) {
			b = changed(r, b)
		}
		want, wantE := plainReadWhole(b)
		n, e := tlv.Read(b)
		if e != wantE || !same(n, want) {
			t.Fatalf("Read(%v) = %v, %v, want %v, %v", b, n, e, want, wantE)
		}
		counts[e]++
	}
	for _, e := range []api.Errno{api.OK, api.ErrForm, api.ErrShort, api.ErrDeep} {
		if counts[e] < 100 {
			t.Errorf("%v came only %d times", e, counts[e])
		}
	}
}

// changed returns a copy with one byte changed, added or removed, or cut off somewhere.
func changed(r *rand.Rand, b []byte) []byte {
	if len(b) == 0 {
		return []byte{byte(r.Intn(256))}
	}
	special := []byte{0, 1, 2, 5, 31, 48, 63, 127, 128, 129, 130, 131, 255}
	at, v := r.Intn(len(b)), special[r.Intn(len(special))]
	switch r.Intn(5) {
	case 0:
		return concat(b[:at], []byte{v}, b[at:])
	case 1:
		return concat(b[:at], b[at+1:])
	case 2:
		return concat(b[:at])
	case 3:
		return concat(b[:at], []byte{b[at] + 1}, b[at+1:])
	}
	return concat(b[:at], []byte{v}, b[at+1:])
}

// randomNode returns an element of at most the given depth.
func randomNode(r *rand.Rand, deep, most int) api.Node {
	n := api.Node{Tag: r.Intn(8)*32 + r.Intn(31)}
	if deep == 1 {
		n.Tag &^= 32
	}
	if n.Tag&32 == 0 {
		n.Body = make([]byte, r.Intn(most))
		if r.Intn(10) == 0 {
			n.Body = make([]byte, r.Intn(300))
		}
		r.Read(n.Body)
		return n
	}
	for range r.Intn(5) {
		n.Kids = append(n.Kids, randomNode(r, deep-1, most))
	}
	return n
}

// P4.4

func TestReadAndWriteAreInverse(t *testing.T) {
	r := rand.New(rand.NewSource(12))
	for range 3000 {
		n := randomNode(r, 1+r.Intn(6), 40)
		b, e := tlv.Write(n)
		if e != api.OK {
			t.Fatalf("Write(%v): %v", n, e)
		}
		size, many, deep := tlv.Size(n)
		if size != len(b) {
			t.Fatalf("Size(%v) is %d, but the encoding has %d bytes", n, size, len(b))
		}
		back, e := tlv.Read(b)
		if e != api.OK || !same(back, n) {
			t.Fatalf("Read(Write(%v)) = %v, %v", n, back, e)
		}
		if s, m, d := tlv.Size(back); s != size || m != many || d != deep {
			t.Fatalf("Size(Read(Write(%v))) = %d, %d, %d", n, s, m, d)
		}
		if again, e := tlv.Write(back); e != api.OK || !bytes.Equal(again, b) {
			t.Fatalf("Write(Read(%v)) = %v, %v", b, again, e)
		}
	}
}

func TestWhatReadTakesWriteWrites(t *testing.T) {
	r := rand.New(rand.NewSource(13))
	values := []byte{0, 1, 2, 3, 4, 5, 6, 31, 48, 49, 127, 128, 129, 130, 160, 255}
	for range 200000 {
		b := make([]byte, r.Intn(9))
		for i := range b {
			b[i] = values[r.Intn(len(values))]
		}
		n, e := tlv.Read(b)
		if e != api.OK {
			continue
		}
		if back, e := tlv.Write(n); e != api.OK || !bytes.Equal(back, b) {
			t.Fatalf("Write(Read(%v)) = %v, %v", b, back, e)
		}
	}
}

func TestEveryProperPrefixIsTooShort(t *testing.T) {
	r := rand.New(rand.NewSource(14))
	nodes := []api.Node{primitive(5), sequence(), sized(127), sized(128), sized(255), sized(256), sized(19996), nested(32, sized(300)), sequence(make([]api.Node, 9998)...)}
	for range 300 {
		nodes = append(nodes, randomNode(r, 1+r.Intn(6), 40))
	}
	for _, n := range nodes {
		b, e := tlv.Write(n)
		if e != api.OK {
			t.Fatalf("Write(%v): %v", n, e)
		}
		for end := range len(b) {
			if n, e := tlv.Read(b[:end]); e != api.ErrShort || !same(n, api.Node{}) {
				t.Fatalf("Read of %d of %d bytes = %v, %v", end, len(b), n, e)
			}
		}
	}
}

// R1, R3 and R4

func TestArgumentsAreNeitherChangedNorKept(t *testing.T) {
	// Room behind the slices shows whether anything is written there.
	room := bytes.Repeat([]byte{77}, 40)
	kidRoom := make([]api.Node, 4)
	kidRoom[0], kidRoom[1] = primitive(2, 5), api.Node{Tag: 49, Body: room[3:3]}
	n := api.Node{Tag: 48, Body: room[:0], Kids: kidRoom[:2]}
	want := []byte{48, 5, 2, 1, 5, 49, 0}
	isWritten(t, "with room", n, want)
	isWritten(t, "a body with room", api.Node{Tag: 4, Body: room[:2]}, []byte{4, 2, 77, 77})
	tlv.Size(n)
	if !bytes.Equal(room, bytes.Repeat([]byte{77}, 40)) || !same(kidRoom[2], api.Node{}) || !same(kidRoom[3], api.Node{}) {
		t.Error("something was written behind the arguments")
	}
	b, _ := tlv.Write(n)
	kidRoom[0].Body[0] = 9
	if !bytes.Equal(b, want) {
		t.Errorf("the encoding became %v with the element", b)
	}
	input := []byte{48, 5, 2, 1, 5, 49, 0}
	read, _ := tlv.Read(input)
	if !bytes.Equal(input, want) {
		t.Errorf("Read made %v of its argument", input)
	}
	clear(input)
	if !same(read, sequence(primitive(2, 5), api.Node{Tag: 49})) {
		t.Errorf("the element became %v with the bytes", read)
	}
	read.Kids[0].Body[0] = 6
	if !bytes.Equal(input, make([]byte, 7)) {
		t.Errorf("the bytes became %v with the element", input)
	}
}

func TestPartsOfAResultShareNothing(t *testing.T) {
	n, e := tlv.Read([]byte{48, 14, 4, 2, 1, 2, 4, 2, 3, 4, 48, 2, 5, 0, 4, 0})
	if e != api.OK || len(n.Kids) != 4 {
		t.Fatal(n, e)
	}
	_ = append(n.Kids[0].Body, 9, 9, 9, 9, 9)
	_ = append(n.Kids[3].Body, 9, 9, 9, 9, 9)
	_ = append(n.Kids[2].Kids, primitive(9), primitive(9))
	n.Kids[0].Body[1] = 9
	if !bytes.Equal(n.Kids[1].Body, []byte{3, 4}) || !same(n.Kids[2], sequence(primitive(5))) {
		t.Errorf("parts became %v", n.Kids)
	}
}

func TestEarlierCallsChangeNothing(t *testing.T) {
	b := []byte{48, 3, 2, 1, 5}
	first, _ := tlv.Read(b)
	written, _ := tlv.Write(first)
	first.Kids[0].Body[0] = 99
	clear(written)
	isNotRead(t, "a fault between", []byte{48, 3, 2, 2, 5}, api.ErrForm)
	isRead(t, "again", b, sequence(primitive(2, 5)))
	isWritten(t, "again", sequence(primitive(2, 5)), b)
}
