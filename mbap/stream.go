package mbap

import "bascule/api"

// Stream is one on which bytes come.
type Stream struct {
	left   []byte // in no frame yet
	broken bool
}

// New answers a stream on which nothing came.
func New() *Stream { return &Stream{} }

// Feed takes bytes that came, and tells the frames that are whole with them.
func (s *Stream) Feed(b []byte) ([]api.Adu, api.Errno) {
	if s == nil {
		return nil, api.ErrNil
	}
	if s.broken {
		return nil, api.ErrLine
	}
	told, left, e := cut(joined(s.left, b))
	s.broken = e != api.OK
	// A copy: what is left would hold on to all that came, long after its frames are told.
	s.left = joined(left, nil)
	return told, e
}

// Left answers how many bytes came that are in no frame that was told.
func (s *Stream) Left() int {
	if s == nil {
		return 0
	}
	return len(s.left)
}

// cut answers the frames that came, and what is left behind them; ErrLine, with the frames ahead and nothing left, if no frame begins there.
func cut(came []byte) ([]api.Adu, []byte, api.Errno) {
	var told []api.Adu
	for {
		n, e := size(came)
		if e == api.ErrMore {
			return told, came, api.OK
		}
		if e != api.OK {
			return told, nil, e
		}
		// The third index ends a frame's room where the next one begins: each Pdu is its caller's own, and what is put behind it must not come into another.
		frame := came[:n:n]
		told = append(told, adu(frame))
		came = came[n:]
	}
}

// joined answers new memory with the bytes of a, and those of b behind them.
func joined(a, b []byte) []byte {
	out := make([]byte, 0, len(a)+len(b))
	out = append(out, a...)
	return append(out, b...)
}
