package msgs_test

import (
	"bytes"
	"slices"
	"testing"

	"icehouse/api"
	"icehouse/msgs"
)

// checkAny reads any bytes: they are either the one encoding of a message that may be,
// or an error is reported, and no message. It reports whether they are one.
func checkAny(t *testing.T, b []byte) bool {
	t.Helper()
	got, err := msgs.Read(b)
	want, e := expected(b)
	if err != e || !alike(got, want) {
		t.Errorf("%x is read as %v, error %d, not as %v, error %d", b, got, err, want, e)
		return false
	}
	if err != api.OK {
		return false
	}
	if back, e := msgs.Bytes(got); e != api.OK || !bytes.Equal(back, b) || msgs.Check(got) != api.OK {
		t.Errorf("%x is read as %v, which has the encoding %x, error %d", b, got, back, e)
	}
	return true
}

// words calls check with a beginning followed by all words of up to so many of these
// letters, and returns how often that was true.
func words(first []byte, most int, alphabet []byte, check func(b []byte) bool) int {
	count := 0
	if check(first) {
		count++
	}
	if most > 0 {
		for _, c := range alphabet {
			count += words(append(slices.Clone(first), c), most-1, alphabet, check)
		}
	}
	return count
}

// All short words behind the head of each kind.
func TestAnyFields(t *testing.T) {
	for _, kind := range allKinds() {
		got := words([]byte{1, byte(kind), 0, 0, 0, 0}, 8, []byte{0, 1, 2}, func(b []byte) bool { return checkAny(t, b) })
		if want := counted(letters(kind)); got != want {
			t.Errorf("%d of the words of kind %d are messages, not %d", got, kind, want)
		}
	}
}

// counted returns how many words of up to eight of the letters 0, 1 and 2 are the fields
// of a message.
//
// A number is 0, 1 x with x 1 or 2, or 2 x y with x 1 or 2: 1, 2 and 6 words of 1, 2 and
// 3 letters. An entry begins with 1 1 x, or 1 2 x y, for the key: 3 and 9 words. It ends
// with 0 0 0 0; or with a number that is not 0, two numbers, and 0; or with the same, 1
// in place of 0, and a value, that is 0, 1 1 x, or 1 2 x y.
func counted(fields string) int {
	const most = 8
	number := []int{0, 1, 2, 6}
	written := []int{0, 0, 2, 6}
	truth := []int{0, 2}
	tags := joined(written, joined(number, number))
	ends := added(joined(tags, []int{0, 1}), joined(tags, joined([]int{0, 1}, []int{0, 1, 0, 3, 9})))
	entry := joined([]int{0, 0, 0, 3, 9}, added([]int{0, 0, 0, 0, 1}, ends))
	// A list has a length of one byte, as 256 entries have no room here.
	list := added([]int{0, 1}, added(joined([]int{0, 0, 1}, entry), joined([]int{0, 0, 1}, joined(entry, entry))))
	all := []int{1}
	for _, field := range fields {
		switch field {
		case 'N':
			all = joined(all, number)
		case 'F':
			all = joined(all, truth)
		case 'E':
			all = joined(all, entry)
		case 'L':
			all = joined(all, list)
		case 'R':
			all = joined(all, rings())
		}
	}
	sum := 0
	for _, n := range all[:min(len(all), most+1)] {
		sum += n
	}
	return sum
}

// rings: Each is 1 or 2; Keep is 1 of one node, that is any number, which is 7 letters
// and more; of two nodes Keep is 1 or 2, and these are 0 and one of 1, 2 in at least 3
// letters, which is 9 letters and more.
func rings() []int {
	return []int{0, 0, 0, 0, 0, 0, 0, 2 * 1, 2 * 2}
}

func joined(a, b []int) []int {
	out := make([]int, len(a)+len(b))
	for i, x := range a {
		for k, y := range b {
			out[i+k] += x * y
		}
	}
	return out
}

func added(a, b []int) []int {
	out := make([]int, max(len(a), len(b)))
	for i, x := range a {
		out[i] += x
	}
	for i, x := range b {
		out[i] += x
	}
	return out
}

// All short words of letters that are also kinds, and lengths that may not be.
func TestAnyHeads(t *testing.T) {
	got := words(nil, 8, []byte{0, 1, 9, 17}, func(b []byte) bool { return checkAny(t, b) })
	// Only Beat, as 01 11, has no more fields; each number behind it is 0, or 1 x with x
	// 1, 9 or 17. Of the other kinds Ask (1) and Fill (9) take eleven bytes at least.
	if want := 1 + 4*3 + 6*9; got != want {
		t.Errorf("%d of the words are messages, not %d", got, want)
	}
}

func TestAnyRings(t *testing.T) {
	words([]byte{1, api.News, 0, 0, 0, 0, 1, 1}, 8, []byte{0, 1, 2, 64}, func(b []byte) bool { return checkAny(t, b) })
	words([]byte{1, api.News, 0, 0, 0, 0}, 6, []byte{0, 1, 2, 64, 65}, func(b []byte) bool { return checkAny(t, b) })
}

// Each byte of an encoding is put to each value, left out, and doubled.
func TestChangedBytes(t *testing.T) {
	for _, kind := range allKinds() {
		for _, m := range []api.Msg{least(kind), usual(kind), greatest(kind)} {
			b := mustBytes(t, m)
			for i, before := range b {
				for c := range 256 {
					b[i] = byte(c)
					if !checkAny(t, b) && b[i] == before {
						t.Errorf("a message of kind %d is not read back", kind)
					}
				}
				b[i] = before
				checkAny(t, slices.Delete(slices.Clone(b), i, i+1))
				checkAny(t, slices.Insert(slices.Clone(b), i, before))
			}
		}
	}
}

// Parts of two encodings are put together at all places.
func TestMixedBytes(t *testing.T) {
	for _, a := range allKinds() {
		for _, b := range allKinds() {
			one, other := mustBytes(t, usual(a)), mustBytes(t, usual(b))
			for i := range one {
				for k := range other {
					checkAny(t, slices.Concat(one[:i], other[k:]))
				}
			}
		}
	}
}

// Bytes by a rule, without any sense.
func TestBytesWithoutSense(t *testing.T) {
	word := uint64(1)
	next := func() byte {
		word = word*6364136223846793005 + 1442695040888963407
		return byte(word >> 56)
	}
	for i := range 100000 {
		b := []byte{1, 1 + next()%kindCount}
		for range i % 40 {
			c := next()
			if c < 200 {
				c %= 4
			}
			b = append(b, c)
		}
		checkAny(t, b)
	}
}
