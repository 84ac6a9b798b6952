// Package wire is layer 1: numbers and blobs in bytes, and frames: see shared/doc/01-wire.md.
package wire

import (
	"math/bits"

	"muntin/api"
)

// maxWidth is how many bytes a number has at most, behind the one that counts them.
const maxWidth = 8

// fieldSize is how many bytes a frame's count has, and its sum.
const fieldSize = 4

// sumSteps is what four steps of the sum's register make of its lowest four bits, so that a byte takes two looks instead of eight steps.
var sumSteps = [16]uint32{
	0x00000000, 0x105EC76F, 0x20BD8EDE, 0x30E349B1,
	0x417B1DBC, 0x5125DAD3, 0x61C69362, 0x7198540D,
	0x82F63B78, 0x92A8FC17, 0xA24BB5A6, 0xB21572C9,
	0xC38D26C4, 0xD3D3E1AB, 0xE330A81A, 0xF36E6F75,
}

// Num is a number in bytes.
func Num(n int) ([]byte, error) {
	if n < 0 {
		return nil, api.ErrArg
	}
	width := (bits.Len64(uint64(n)) + 7) / 8
	out := make([]byte, 0, 1+width)
	out = append(out, byte(width))
	for i := width - 1; i >= 0; i-- {
		out = append(out, byte(n>>(8*i)))
	}
	return out, nil
}

// TakeNum takes one from the front.
func TakeNum(b []byte) (int, int, error) {
	if len(b) == 0 {
		return 0, 0, api.ErrEnd
	}
	width := int(b[0])
	if width > maxWidth {
		return 0, 0, api.ErrForm
	}
	if len(b)-1 < width {
		return 0, 0, api.ErrEnd
	}
	digits := b[1 : 1+width]
	if !rightDigits(digits) {
		return 0, 0, api.ErrForm
	}
	return join(digits), 1 + width, nil
}

// rightDigits tells whether these bytes, at most eight, are how a number is written: the widest ones must also keep to MaxInt.
func rightDigits(digits []byte) bool {
	switch len(digits) {
	case maxWidth:
		if digits[0] > 127 {
			return false
		}
		fallthrough
	case 1, 2, 3, 4, 5, 6, 7:
		if digits[0] == 0 {
			return false
		}
	}
	return true
}

// join is the number of which these are the bytes, the highest first.
func join(digits []byte) int {
	n := 0
	for _, d := range digits {
		n = n<<8 | int(d)
	}
	return n
}

// Blob is a blob in bytes.
func Blob(p []byte) ([]byte, error) {
	if len(p) > api.MaxBlob {
		return nil, api.ErrLong
	}
	count, err := Num(len(p))
	if err != nil {
		return nil, err
	}
	out := make([]byte, 0, len(count)+len(p))
	out = append(out, count...)
	return append(out, p...), nil
}

// TakeBlob takes one from the front.
func TakeBlob(b []byte) ([]byte, int, error) {
	size, used, err := TakeNum(b)
	if err != nil {
		return nil, 0, err
	}
	if size > api.MaxBlob {
		return nil, 0, api.ErrLong
	}
	if len(b)-used < size {
		return nil, 0, api.ErrEnd
	}
	end := used + size
	return copied(b[used:end]), end, nil
}

// copied is the same bytes in new memory.
func copied(p []byte) []byte {
	out := make([]byte, len(p))
	copy(out, p)
	return out
}

// Sum is the check sum.
func Sum(b []byte) int {
	register := ^uint32(0)
	for _, x := range b {
		register ^= uint32(x)
		register = register>>4 ^ sumSteps[register&15]
		register = register>>4 ^ sumSteps[register&15]
	}
	return int(^register)
}

// field is a number below 2^32 as a frame's count or sum.
func field(n int) [fieldSize]byte {
	return [fieldSize]byte{byte(n >> 24), byte(n >> 16), byte(n >> 8), byte(n)}
}

// Frame puts bytes into one.
func Frame(p []byte) ([]byte, error) {
	if len(p) > api.MaxFrame {
		return nil, api.ErrLong
	}
	count := field(len(p))
	out := make([]byte, 0, len(p)+2*fieldSize)
	out = append(out, count[:]...)
	out = append(out, p...)
	sum := field(Sum(out))
	return append(out, sum[:]...), nil
}

// Open opens one at the front.
func Open(b []byte) ([]byte, int, error) {
	if len(b) < fieldSize {
		return nil, 0, api.ErrEnd
	}
	size := join(b[:fieldSize])
	if size > api.MaxFrame {
		return nil, 0, api.ErrLong
	}
	summed := fieldSize + size
	end := summed + fieldSize
	if len(b) < end {
		return nil, 0, api.ErrEnd
	}
	if join(b[summed:end]) != Sum(b[:summed]) {
		return nil, 0, api.ErrSum
	}
	return copied(b[fieldSize:summed]), end, nil
}

// Scan opens as many as are whole.
func Scan(b []byte) ([][]byte, int, error) {
	var parts [][]byte
	done := 0
	for done < len(b) {
		p, used, err := Open(b[done:])
		if err != nil {
			return parts, done, err
		}
		parts = append(parts, p)
		done += used
	}
	return parts, done, nil
}
