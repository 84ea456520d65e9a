package solo_test

import (
	"slices"

	"verger/api"
	"verger/msg"
	"verger/seq"
)

// The model: what the chapter says, in other words than the package's, to hold the package against. A connection is all the bytes that came and were no whole frame yet, from which frames are cut by their sizes; each is answered by the first of a list of reasons, or else by the world. (What a request means is asked of the layer below, and so is how messages stand as bytes.)
type model struct {
	c     api.Config
	w     *seq.World
	lines []*line // of each connection: of the number n at n-1
}

type line struct {
	rest  []byte
	ended bool
}

func (m *model) open() (int, api.Errno) {
	live := 0
	for _, l := range m.lines {
		if !l.ended {
			live++
		}
	}
	if live >= 16 {
		return 0, 160
	}
	m.lines = append(m.lines, &line{})
	return len(m.lines), 0
}

func (m *model) why(conn int) api.Errno {
	if conn <= 0 || conn > len(m.lines) {
		return 161
	}
	if m.lines[conn-1].ended {
		return 123
	}
	return 0
}

func (m *model) close(conn int) api.Errno {
	if e := m.why(conn); e != 0 {
		return e
	}
	m.lines[conn-1].ended = true
	m.w.Leave(conn)
	return 0
}

// most is how many bytes a frame may have.
func (m *model) most(conn int) int {
	if m.w.Msize(conn) > 0 {
		return int(m.w.Msize(conn))
	}
	return int(m.c.Msize)
}

func (m *model) feed(conn int, b []byte) ([]byte, api.Errno) {
	if e := m.why(conn); e != 0 {
		return nil, e
	}
	l := m.lines[conn-1]
	l.rest = slices.Concat(l.rest, b)
	var told []byte
	for len(l.rest) >= 4 {
		size := int(l.rest[0]) + int(l.rest[1])*256 + int(l.rest[2])*65536 + int(l.rest[3])*16777216
		if size < 7 || size > m.most(conn) {
			m.close(conn)
			break
		}
		if len(l.rest) < size {
			break
		}
		reply, _ := msg.Encode(m.answer(conn, l.rest[:size]))
		told = append(told, reply...)
		l.rest = l.rest[size:]
	}
	return told, 0
}

// whyNot is why a frame is refused ahead of all that its kind asks. Its fifth byte is its kind; the two behind that are its tag.
func (m *model) whyNot(conn int, f []byte, tag uint16) api.Errno {
	kind := f[4]
	if kind < 100 || kind > 126 || kind%2 != 0 || kind == 106 {
		return 32
	}
	if _, e := msg.Decode(f); e != 0 {
		return 33
	}
	if kind == 100 && tag != 65535 || kind != 100 && tag == 65535 {
		return 120
	}
	if kind != 100 && m.w.Msize(conn) == 0 {
		return 121
	}
	return 0
}

func (m *model) answer(conn int, f []byte) api.Msg {
	tag := uint16(f[5]) + uint16(f[6])*256
	if e := m.whyNot(conn, f, tag); e != 0 {
		return api.Msg{Kind: 107, Tag: tag, Ename: e.Error()}
	}
	if f[4] == 108 {
		return api.Msg{Kind: 109, Tag: tag}
	}
	t, _ := msg.Decode(f)
	return m.w.Do(conn, t)
}

// ask is what is answered through a port.
func (m *model) ask(conn int, t api.Msg) (api.Msg, api.Errno) {
	f, e := msg.Encode(t)
	if e != 0 {
		return api.Msg{}, 30
	}
	told, e := m.feed(conn, f)
	if e != 0 {
		return api.Msg{}, e
	}
	for _, r := range slices.Backward(replies(told)) {
		if r.Tag == t.Tag {
			return r, 0
		}
	}
	return api.Msg{}, 180
}

// replies are the messages of frames that stand one behind the other.
func replies(b []byte) []api.Msg {
	var l []api.Msg
	for len(b) > 0 {
		size := int(b[0]) + int(b[1])*256 + int(b[2])*65536
		r, e := msg.Decode(b[:size])
		if e != 0 {
			panic("a reply is no frame")
		}
		l = append(l, r)
		b = b[size:]
	}
	return l
}
