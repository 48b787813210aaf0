package master

import (
	"maps"
	"slices"

	"bascule/api"
)

// sent is the request that is out.
type sent struct {
	api.Send
	times int // that it was sent
	last  int // the tick of the last time
}

// send tells the request once more. Each time it is a copy: what the caller does with it must not come into the next one, nor into what answers are held against.
func (s *sent) send(now int) []api.Send {
	s.times++
	s.last = now
	told := s.Send
	told.Req = copied(s.Req)
	return []api.Send{told}
}

// silence answers for how many ticks it was not sent.
func (s *sent) silence(now int) int { return now - s.last }

// next takes the first one whose unit does not rest out of those that wait; nil, if there is none.
func (m *Master) next() *sent {
waiting:
	for k, w := range m.waits {
		if _, rests := m.rests[w.Unit]; rests {
			continue waiting
		}
		m.waits = slices.Delete(m.waits, k, k+1)
		return &sent{Send: w}
	}
	return nil
}

// giveUp tells that the request that is out is late, and lets its unit rest.
func (m *Master) giveUp(now int) []api.Done {
	m.rests[m.out.Unit] = now
	return m.end(api.Done{Late: true})
}

// end tells what the request that is out came to; it is out no more.
func (m *Master) end(d api.Done) []api.Done {
	d.Ticket = m.out.Ticket
	m.out = nil
	return []api.Done{d}
}

// endRests forgets the rests that end at now or ahead.
func (m *Master) endRests(now int) {
	maps.DeleteFunc(m.rests, func(_, since int) bool { return now-since >= m.rest })
}

// copied answers a request with Values of its own.
func copied(r api.Request) api.Request {
	r.Values = slices.Clone(r.Values)
	return r
}
