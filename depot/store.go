package depot

import (
	"bytes"

	"icehouse/api"
	"icehouse/store"
)

// Store is a store of layer 8 that keeps what was put since the last Tick, whoever put it:
// that one tells nobody what it is to acknowledge, until it does so.
type Store struct {
	store.Store
	puts []put
}

// put is one that was accepted.
type put struct {
	e   api.Entry
	who int
}

// Put is that of the store, which refuses what it has no room for.
func (s *Store) Put(e api.Entry, who int) api.Errno {
	err := s.Store.Put(e, who)
	if err == api.OK {
		e.Val.B = bytes.Clone(e.Val.B)
		s.puts = append(s.puts, put{e, who})
	}
	return err
}

// Tick is that of the store, after which nothing is to be acknowledged.
func (s *Store) Tick() ([]api.Ack, api.Errno) {
	s.puts = nil
	return s.Store.Tick()
}
