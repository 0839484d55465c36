package checksum_test

import (
	"archive/tar"
	"bytes"
	"strconv"
	"strings"
	"testing"

	"paxtar/api"
	"paxtar/checksum"
)

// The bytes of the checksum field.
const (
	fieldStart = 148
	fieldEnd   = 156
)

// wrongLengths are those around the bounds of the field and of a block, multiples of a block, and lengths that look like a block when they are cut to 8, 10 or 16 bits.
var wrongLengths = []int{0, 1, 2, 8, 147, 148, 149, 154, 155, 156, 157, 256, 504, 510, 511, 513, 514, 520, 1024, 1025, 1536, 1 << 16, 1<<16 + 512}

// sum computes the checksum without the package under test.
func sum(block []byte) int {
	n := 8 * 32
	for i, c := range block {
		if i < fieldStart || i >= fieldEnd {
			n += int(c)
		}
	}
	return n
}

// seal builds the sealed block without the package under test.
func seal(block []byte) []byte {
	digits := strconv.FormatInt(int64(sum(block)), 8)
	field := strings.Repeat("0", 6-len(digits)) + digits + "\x00 "
	return []byte(string(block[:fieldStart]) + field + string(block[fieldEnd:]))
}

// counted returns a block whose bytes take all values.
func counted() []byte {
	b := make([]byte, api.Block)
	for i := range b {
		b[i] = byte(7*i + i/256)
	}
	return b
}

// blocks returns blocks with the least and the greatest checksum, with each number of leading zeros that a checksum can have, and with various bytes in the field.
func blocks() [][]byte {
	l := [][]byte{counted(), bytes.Repeat([]byte(" "), api.Block), []byte(strings.Repeat("0123456\x00", api.Block/8))}
	for _, c := range []byte{0, 1, 7, 8, 127, 128, 129, 254, 255} {
		l = append(l, bytes.Repeat([]byte{c}, api.Block))
		b := make([]byte, api.Block)
		for i := fieldStart; i < fieldEnd; i++ {
			b[i] = c
		}
		l = append(l, b)
	}
	for _, n := range []int{256, 511, 512, 4095, 4096, 32767, 32768, 128775, 128776} {
		l = append(l, blockOfSum(n))
	}
	return l
}

// blockOfSum returns a block with the given checksum.
func blockOfSum(n int) []byte {
	b := make([]byte, api.Block)
	n -= 8 * 32
	for i := range b {
		if i < fieldStart || i >= fieldEnd {
			b[i] = byte(min(n, 255))
			n -= int(b[i])
		}
	}
	return b
}

func withField(block []byte, field string) []byte {
	b := bytes.Clone(block)
	copy(b[fieldStart:fieldEnd], field)
	return b
}

func checkSum(t *testing.T, block []byte, want int, wantErr api.Errno) {
	t.Helper()
	before := bytes.Clone(block)
	n, err := checksum.Sum(block)
	if n != want || err != wantErr {
		t.Errorf("Sum(%.20q..) = %d, %v; want %d, %v", before, n, err, want, wantErr)
	}
	if !bytes.Equal(block, before) {
		t.Errorf("Sum(%.20q..) changed its argument", before)
	}
}

func checkSeal(t *testing.T, block, want []byte, wantErr api.Errno) {
	t.Helper()
	before := bytes.Clone(block)
	b, err := checksum.Seal(block)
	if !bytes.Equal(b, want) || err != wantErr {
		t.Errorf("Seal(%.20q..) = %q, %v; want %q, %v", before, b, err, want, wantErr)
	}
	if !bytes.Equal(block, before) {
		t.Errorf("Seal(%.20q..) changed its argument", before)
	}
}

func checkVerify(t *testing.T, block []byte, want api.Errno) {
	t.Helper()
	before := bytes.Clone(block)
	if err := checksum.Verify(block); err != want {
		t.Errorf("Verify(%q) = %v; want %v", before, err, want)
	}
	if !bytes.Equal(block, before) {
		t.Errorf("Verify(%.20q..) changed its argument", before)
	}
}

// P3.1: each wrong length, whatever the bytes are.
func TestWrongLengths(t *testing.T) {
	checkSum(t, nil, 0, api.ErrArg)
	checkSeal(t, nil, nil, api.ErrArg)
	checkVerify(t, nil, api.ErrArg)
	for _, length := range wrongLengths {
		for _, c := range []byte{0, ' ', '0', 255} {
			b := bytes.Repeat([]byte{c}, length)
			checkSum(t, b, 0, api.ErrArg)
			checkSeal(t, b, nil, api.ErrArg)
			checkVerify(t, b, api.ErrArg)
		}
	}
}

// P3.1: a length is wrong also if a sealed block has been cut or continued.
func TestWrongLengthsOfSealedBlocks(t *testing.T) {
	sealed := seal(counted())
	zero := seal(make([]byte, api.Block))
	for _, b := range [][]byte{sealed[:511], zero[:511], sealed[:156], append(bytes.Clone(zero), 0), append(bytes.Clone(sealed), sealed...)} {
		checkSum(t, b, 0, api.ErrArg)
		checkSeal(t, b, nil, api.ErrArg)
		checkVerify(t, b, api.ErrArg)
	}
}

// P3.1
func TestSumExamples(t *testing.T) {
	checkSum(t, make([]byte, 512), 256, api.OK)
	checkSum(t, bytes.Repeat([]byte{1}, 512), 504+256, api.OK)
	checkSum(t, bytes.Repeat([]byte{' '}, 512), 512*32, api.OK)
	checkSum(t, bytes.Repeat([]byte{128}, 512), 504*128+256, api.OK)
	checkSum(t, bytes.Repeat([]byte{255}, 512), 504*255+256, api.OK)
	b := make([]byte, 512)
	b[0], b[150], b[511] = 10, 99, 255
	checkSum(t, b, 256+265, api.OK)
}

// P3.1
func TestSumOfBlocks(t *testing.T) {
	for _, b := range blocks() {
		checkSum(t, b, sum(b), api.OK)
	}
}

// P3.1: each value of each byte counts once, without a sign; in the field, it does not count.
func TestSumOfEveryByte(t *testing.T) {
	for i := range api.Block {
		for c := range 256 {
			b := make([]byte, api.Block)
			b[i] = byte(c)
			want := 256 + c
			if fieldStart <= i && i < fieldEnd {
				want = 256
			}
			checkSum(t, b, want, api.OK)
		}
	}
}

// P3.1
func TestSealExamples(t *testing.T) {
	for n, field := range map[int]string{256: "000400\x00 ", 257: "000401\x00 ", 521: "001011\x00 ", 4095: "007777\x00 ", 4096: "010000\x00 ", 32767: "077777\x00 ", 32768: "100000\x00 ", 128776: "373410\x00 "} {
		b := blockOfSum(n)
		checkSeal(t, b, withField(b, field), api.OK)
	}
}

// P3.1: only the field changes, and what it contained before makes no difference.
func TestSealOfBlocks(t *testing.T) {
	for _, b := range blocks() {
		checkSeal(t, b, seal(b), api.OK)
		for _, field := range []string{"\x00\x00\x00\x00\x00\x00\x00\x00", "        ", "777777\x00 ", "\xff\xff\xff\xff\xff\xff\xff\xff", "abcdefgh"} {
			checkSeal(t, withField(b, field), seal(b), api.OK)
		}
		checkSeal(t, seal(b), seal(b), api.OK)
	}
}

// P3.1: every checksum that a block can have.
func TestSealOfEverySum(t *testing.T) {
	for n := 256; n <= 504*255+256; n++ {
		b, err := checksum.Seal(blockOfSum(n))
		if err != api.OK || len(b) != api.Block {
			t.Fatalf("Seal of a block with the sum %d: %q, %v", n, b, err)
		}
		octal, err2 := strconv.ParseInt(string(b[fieldStart:154]), 8, 64)
		if err2 != nil || octal != int64(n) || string(b[154:fieldEnd]) != "\x00 " {
			t.Fatalf("the field of the sum %d is %q", n, b[fieldStart:fieldEnd])
		}
	}
}

// P3.1: the result shares no memory with the argument, also if the argument is already sealed, nor with another result.
func TestSealReturnsNewMemory(t *testing.T) {
	for _, block := range [][]byte{counted(), seal(counted())} {
		want := seal(block)
		a, _ := checksum.Seal(block)
		b, _ := checksum.Seal(block)
		for i := range a {
			a[i] = 'x'
		}
		if !bytes.Equal(b, want) {
			t.Errorf("the second result became %q", b)
		}
		checkSeal(t, block, want, api.OK)
		for i := range block {
			block[i] = 'y'
		}
		if !bytes.Equal(b, want) {
			t.Errorf("the result became %q with the argument", b)
		}
	}
}

// Rule 4: only the bytes up to the length of a slice count.
func TestNothingIsReadBeyondTheLength(t *testing.T) {
	block := seal(counted())
	b := append(append([]byte("before"), block...), "after"...)
	checkSum(t, b[6:518], sum(block), api.OK)
	checkSeal(t, b[6:518], block, api.OK)
	checkVerify(t, b[6:518], api.OK)
	for _, part := range [][]byte{b[6:517], b[6:519], b[:0], b[518:]} {
		checkSum(t, part, 0, api.ErrArg)
		checkSeal(t, part, nil, api.ErrArg)
		checkVerify(t, part, api.ErrArg)
	}
}

// P3.2
func TestVerifyOfSealedBlocks(t *testing.T) {
	for _, b := range blocks() {
		checkVerify(t, seal(b), api.OK)
	}
	checkVerify(t, withField(make([]byte, 512), "000400\x00 "), api.OK)
}

// P3.2: a block that is not sealed, among them blocks whose field is empty or blank.
func TestVerifyOfUnsealedBlocks(t *testing.T) {
	for _, b := range blocks() {
		checkVerify(t, b, api.ErrChecksum)
		checkVerify(t, withField(b, "\x00\x00\x00\x00\x00\x00\x00\x00"), api.ErrChecksum)
		checkVerify(t, withField(b, "        "), api.ErrChecksum)
	}
}

// P3.2: the right number in other notations, which other archivers write or accept.
func TestVerifyOfOtherNotations(t *testing.T) {
	zero := make([]byte, api.Block)
	for _, field := range []string{"000400 \x00", "000400\x00\x00", "000400  ", "   400\x00 ", "0000400\x00", "0000400 ", "00000400", " 000400\x00", "400\x00\x00\x00\x00 ", "400     ", "400\x00    ", "000256\x00 ", "000100\x00 ", "+00400\x00 ", "0o0400\x00 ", "000400\x000", "000400\x00\n", "000400\x00\t", "000400\x00\xa0", "000400\x01 ", "\x80\x00\x00\x00\x00\x00\x01\x00"} {
		checkVerify(t, withField(zero, field), api.ErrChecksum)
	}
}

// P3.2: other numbers, among them the sum of signed bytes, and the sums in which the field counts as NUL bytes or as what it contains.
func TestVerifyOfOtherSums(t *testing.T) {
	field := func(n int) string {
		digits := strconv.FormatInt(int64(n), 8)
		return strings.Repeat("0", 6-len(digits)) + digits + "\x00 "
	}
	for _, b := range blocks() {
		n := sum(b)
		for _, other := range []int{0, n - 256, n - 1, n + 1, n + 8, n - 8, n + 255, n + 256, n + 4096, n % 256, n + 1<<17} {
			checkVerify(t, withField(b, field(other)), api.ErrChecksum)
		}
	}
	high := bytes.Repeat([]byte{0}, api.Block)
	high[0], high[1] = 255, 1
	checkVerify(t, withField(high, field(256)), api.ErrChecksum)
	checkVerify(t, withField(high, field(512)), api.OK)
	unblanked := seal(make([]byte, api.Block))
	for range 3 {
		n := 0
		for _, c := range unblanked {
			n += int(c)
		}
		unblanked = withField(unblanked, field(n))
		checkVerify(t, unblanked, api.ErrChecksum)
	}
}

// P3.3, first half.
func TestSealedBlocksVerify(t *testing.T) {
	for _, b := range blocks() {
		sealed, err := checksum.Seal(b)
		if err != api.OK {
			t.Fatalf("Seal(%q) = %v", b, err)
		}
		checkVerify(t, sealed, api.OK)
		checkSum(t, sealed, sum(b), api.OK)
		checkSeal(t, sealed, sealed, api.OK)
	}
}

// P3.3, second half: each other value of each byte.
func TestChangingOneByteInvalidates(t *testing.T) {
	for _, b := range [][]byte{make([]byte, api.Block), counted(), bytes.Repeat([]byte{255}, api.Block)} {
		sealed, err := checksum.Seal(b)
		if err != api.OK {
			t.Fatalf("Seal(%q) = %v", b, err)
		}
		for i, c := range sealed {
			for other := range 256 {
				if byte(other) == c {
					continue
				}
				sealed[i] = byte(other)
				if err := checksum.Verify(sealed); err != api.ErrChecksum {
					t.Errorf("byte %d of a sealed block changed from %d to %d: %v", i, c, other, err)
				}
			}
			sealed[i] = c
		}
		checkVerify(t, sealed, api.OK)
	}
}

// The promises follow the format of other archivers: their headers are sealed.
func TestHeadersOfAnotherArchiverVerify(t *testing.T) {
	for _, h := range []tar.Header{{Name: "a", Mode: 0o644}, {Name: "b/", Typeflag: tar.TypeDir, Mode: 0o755}, {Name: strings.Repeat("\u00ff", 40), Mode: 0o7777, Uname: "root", Format: tar.FormatGNU}} {
		var b bytes.Buffer
		if err := tar.NewWriter(&b).WriteHeader(&h); err != nil {
			t.Fatal(err)
		}
		block := b.Bytes()[:api.Block]
		checkVerify(t, block, api.OK)
		checkSeal(t, withField(block, "xxxxxxxx"), block, api.OK)
	}
}

// P1: no call panics, whatever its argument.
func TestNoPanic(t *testing.T) {
	for length := range 1100 {
		for _, c := range []byte{0, ' ', 255} {
			b := bytes.Repeat([]byte{c}, length)
			checksum.Sum(b)
			checksum.Seal(b)
			checksum.Verify(b)
		}
	}
}
