package lin

import (
	"strconv"
	"testing"

	"icehouse/api"
)

// kept returns how many states a search of the way from no deed on keeps, if there is none.
func kept(t *testing.T, l []api.Deed) int {
	t.Helper()
	s := searchOf(l)
	if s.possible(state{}) {
		t.Error("there is a way")
	}
	return len(s.hopeless)
}

func putAt(value, from, to int) api.Deed {
	return api.Deed{Kind: api.Put, B: []byte(strconv.Itoa(value)), From: from, To: to, Done: true}
}

func gotAt(value, from, to int) api.Deed {
	v := api.Val{Has: true, B: []byte(strconv.Itoa(value))}
	return api.Deed{Kind: api.Get, Val: v, From: from, To: to, Done: true}
}

// Where 18 Puts leave 2^18 sets of them, a few states have to be enough: those of one value
// need not be told apart, nor has a value that nothing reads to be tried at every place.
func TestFewStatesAreKept(t *testing.T) {
	for vals := 2; vals <= 10; vals++ {
		for gets := 2; gets <= 10; gets++ {
			var l []api.Deed
			for i := range api.MaxDeeds - gets {
				l = append(l, putAt(i%vals, 0, 100-i))
			}
			for i := range gets {
				l = append(l, gotAt(i%vals, 101+2*i, 102+2*i))
			}
			if n := kept(t, l); n > 1500 {
				t.Errorf("%d values, %d Gets: %d states", vals, gets, n)
			}
		}
	}
}

func TestOneStateIsKeptOfPutsThatNothingReads(t *testing.T) {
	var l []api.Deed
	for i := range api.MaxDeeds - 1 {
		l = append(l, putAt(i, 0, 100))
	}
	if n := kept(t, append(l, gotAt(-1, 0, 100))); n != 1 {
		t.Errorf("%d states", n)
	}
}

// A state that was found to be hopeless isn't searched again.
func TestStatesAreKept(t *testing.T) {
	s := searchOf([]api.Deed{putAt(1, 0, 9), putAt(2, 0, 9), gotAt(1, 10, 11), gotAt(2, 12, 13)})
	if s.possible(state{}) || len(s.hopeless) == 0 {
		t.Fatalf("%d states are kept", len(s.hopeless))
	}
	s.must = 0
	s.hopeless[s.settled(state{})] = struct{}{}
	if !s.possible(state{}) {
		t.Error("all that must be done is done")
	}
	s.must = 4
	if s.possible(state{}) {
		t.Error("a hopeless state is searched")
	}
	s.hopeless = map[state]struct{}{}
	if !s.possible(state{}) {
		t.Error("there is no way")
	}
}
