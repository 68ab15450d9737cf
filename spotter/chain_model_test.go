package spotter_test

import (
	"bytes"
	"encoding/binary"
	"hash/fnv"
	"math/big"
	"slices"

	"spotter/api"
)

// stateOf is a frame of the kind S that need not hold a state.
func stateOf(content string) []byte { return sealed([]byte("S" + content)) }

// deltaOf is a frame of the kind D with any numbers in it.
func deltaOf(from []byte, head, tail uint64, middle []byte) []byte {
	return sealed(slices.Concat([]byte("D"), from[len(from)-4:], numberBytes(head), numberBytes(tail), middle))
}

func isFrame(kind byte, frame []byte) bool {
	return len(frame) > 4 && frame[0] == kind && bytes.Equal(sealed(frame[:len(frame)-4]), frame)
}

// modelDelta is P12 once more: it tries the greatest numbers first.
func modelDelta(from, to []byte) ([]byte, api.Errno) {
	if !isFrame('S', from) || !isFrame('S', to) {
		return nil, api.ErrBytes
	}
	head := min(len(from), len(to))
	for !bytes.HasPrefix(to, from[:head]) {
		head--
	}
	tail := min(len(from), len(to)) - head
	for !bytes.HasSuffix(to, from[len(from)-tail:]) {
		tail--
	}
	return deltaOf(from, uint64(head), uint64(tail), to[head:len(to)-tail]), api.OK
}

// modelNumber takes a number off the front; false, if there is none, or not in as few bytes as can be.
func modelNumber(bytesLeft []byte) (uint64, []byte, bool) {
	n, size := binary.Uvarint(bytesLeft)
	if size <= 0 || !bytes.Equal(numberBytes(n), bytesLeft[:size]) {
		return 0, nil, false
	}
	return n, bytesLeft[size:], true
}

// modelApply is P13 once more: numbers of any size are added as what they are.
func modelApply(from, delta []byte) ([]byte, api.Errno) {
	if !isFrame('S', from) || !isFrame('D', delta) || len(delta) < 1+4+4 {
		return nil, api.ErrBytes
	}
	sum, rest := delta[1:5], delta[5:len(delta)-4]
	head, rest, ok := modelNumber(rest)
	if !ok {
		return nil, api.ErrBytes
	}
	tail, middle, ok := modelNumber(rest)
	if !ok {
		return nil, api.ErrBytes
	}
	if !bytes.HasSuffix(from, sum) {
		return nil, api.ErrChain
	}
	both := new(big.Int).Add(new(big.Int).SetUint64(head), new(big.Int).SetUint64(tail))
	if both.Cmp(big.NewInt(int64(len(from)))) > 0 {
		return nil, api.ErrBytes
	}
	to := slices.Concat(from[:head], middle, from[len(from)-int(tail):])
	if again, errno := modelDelta(from, to); errno != api.OK || !bytes.Equal(again, delta) {
		return nil, api.ErrBytes
	}
	return to, api.OK
}

// modelStands is P14 word by word, with nothing kept: it takes long for long lists.
func modelStands(frames [][]byte, i, within int) []byte {
	if isFrame('S', frames[i]) {
		return frames[i]
	}
	for j := i - 1; j >= 0 && within > 0; j-- {
		if from := modelStands(frames, j, within-1); from != nil {
			if to, errno := modelApply(from, frames[i]); errno == api.OK {
				return to
			}
		}
	}
	return nil
}

func modelResolve(frames [][]byte) ([]byte, int) {
	for i := len(frames) - 1; i >= 0; i-- {
		if state := modelStands(frames, i, 4); state != nil {
			return state, i
		}
	}
	return nil, -1
}

const sumPrime = 16777619

func sumNumber(of []byte) uint32 {
	h := fnv.New32a()
	h.Write(of)
	return h.Sum32()
}

func sumAhead(sum uint32, b byte) uint32 { return (sum ^ uint32(b)) * sumPrime }

func sumBack(sum uint32, b byte) uint32 {
	inverse := uint32(1)
	for range 5 {
		inverse *= 2 - sumPrime*inverse
	}
	return sum*inverse ^ uint32(b)
}

// detour is five bytes that lead the sum from one number to another: two of them from its start on, three from its end back, so that both meet.
func detour(start, end uint32) []byte {
	met := map[uint32][]byte{}
	for n := range 1 << 16 {
		a, b := byte(n>>8), byte(n)
		met[sumAhead(sumAhead(start, a), b)] = []byte{a, b}
	}
	for n := range 1 << 24 {
		a, b, c := byte(n>>16), byte(n>>8), byte(n)
		if front, ok := met[sumBack(sumBack(sumBack(end, c), b), a)]; ok {
			return append(front, a, b, c)
		}
	}
	panic("no detour")
}

// twin is other content behind which the sum is the same, so that it is the same behind all that may follow.
func twin(content string) string {
	out := string(detour(sumNumber([]byte("S")), sumNumber([]byte("S"+content))))
	if out == content {
		panic("no twin")
	}
	return out
}

// loop is content that begins with a byte and may stand behind other content without changing the sum.
func loop(content string, first byte) string {
	sum := sumNumber([]byte("S" + content))
	return string([]byte{first}) + string(detour(sumAhead(sum, first), sum))
}
