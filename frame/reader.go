package frame

import (
	"strings"

	"gimbal/api"
	"gimbal/crc"
)

// A step does what is due and tells what is to be done next: nil, where nothing is till more bytes come.
type step func() step

// reader goes through bytes, frame by frame.
type reader struct {
	rest string
	told []api.Frame
	bad  int
}

// look tells by the first bytes of the rest what is to be done with them.
func (r *reader) look() step {
	have := len(r.rest)
	switch {
	case have == 0:
		return nil
	case r.rest[0] != firstMark:
		return r.seek
	case have == 1:
		return nil
	case r.rest[1] != secondMark:
		return r.seek
	case have < headSize:
		return nil
	case r.count() > api.MaxPayload:
		// Known without the bytes that would follow: nobody waits for them.
		return r.refuse
	case have < r.size():
		return nil
	case !crc.Right(r.rest[markSize:r.size()]):
		return r.refuse
	}
	return r.tell
}

// count is how many bytes the first frame carries.
func (r *reader) count() int {
	return int(r.rest[headSize-1])
}

// size is how many bytes the first frame has.
func (r *reader) size() int {
	return headSize + r.count() + sumSize
}

// seek drops the first byte, and all behind it with which no frame begins.
func (r *reader) seek() step {
	r.rest = r.rest[1:]
	if at := strings.IndexByte(r.rest, firstMark); at >= 0 {
		r.rest = r.rest[at:]
	} else {
		r.rest = ""
	}
	return r.look
}

// refuse counts a bad frame. Its marks alone are dropped: a right frame may begin among the bytes behind them.
func (r *reader) refuse() step {
	r.bad++
	r.rest = r.rest[markSize:]
	return r.look
}

// tell tells the first frame, and all of it is gone.
func (r *reader) tell() step {
	size := r.size()
	payload := strings.Clone(r.rest[headSize : size-sumSize])
	r.told = append(r.told, api.Frame{Kind: r.rest[markSize], Payload: payload})
	r.rest = r.rest[size:]
	return r.look
}
