package rtu

import "bascule/api"

// Line is one on which bytes come.
type Line struct {
	came
	gap  int
	tick int // the last one that was handed in: 0 at first, since none below it may be
}

// New answers a line on which nothing came.
func New(gap int) (*Line, api.Errno) {
	if gap < 1 {
		return nil, api.ErrArg
	}
	return &Line{gap: gap}, api.OK
}

// Feed tells what is at its end at the tick now, and takes the bytes that came at it.
func (l *Line) Feed(now int, b []byte) ([][]byte, api.Errno) {
	told, e := l.Wait(now)
	if e != api.OK {
		return nil, e
	}
	l.add(now, b)
	return told, api.OK
}

// Wait tells what is at its end at the tick now.
func (l *Line) Wait(now int) ([][]byte, api.Errno) {
	if l == nil {
		return nil, api.ErrNil
	}
	if now < l.tick {
		return nil, api.ErrArg
	}
	l.tick = now
	if l.silence(now) < l.gap {
		return nil, api.OK
	}
	return l.end(), api.OK
}
