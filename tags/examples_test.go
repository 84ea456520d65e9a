package tags_test

import (
	"testing"

	"verger/api"
)

// The chapter's examples, word by word.

func TestExample1(t *testing.T) {
	p := newPair(t, 8)
	p.does(t, begin(1, 10))
	p.decides(t, 10)
	p.does(t, flush(2, 1, 11))
	p.wantRows(t, api.TagRow{Tag: 1, Serial: 10, State: api.TagDecided}, api.TagRow{Tag: 2, Serial: 11, State: api.TagFlush})
	p.wantWaiting(t)
	p.does(t, reply(10, rclunk(0)))
	p.wantWaiting(t, 1, 2)
	p.writes(t, rclunk(1), 10)
	p.wantRows(t, api.TagRow{Tag: 2, Serial: 11, State: api.TagFlushed})
	p.writes(t, rflush(2), 11)
	p.wantRows(t)
}

func TestExample2(t *testing.T) {
	p := newPair(t, 8)
	p.does(t, begin(1, 10))
	p.cancels(t, flush(2, 1, 11), 10)
	p.does(t, decide(10))
	p.refuses(t, begin(1, 12), api.ErrTagUsed)
	p.does(t, flush(3, 1, 12))
	p.wantRows(t, api.TagRow{Tag: 1, Serial: 10, State: api.TagCancelled}, api.TagRow{Tag: 2, Serial: 11, State: api.TagFlushed}, api.TagRow{Tag: 3, Serial: 12, State: api.TagFlushed})
	p.writes(t, rflush(2), 11)
	p.wantRows(t, api.TagRow{Tag: 3, Serial: 12, State: api.TagFlushed})
	p.does(t, begin(1, 13))
	p.writes(t, rflush(3), 12)
	p.wantRows(t, api.TagRow{Tag: 1, Serial: 13, State: api.TagOpen})
}

func TestExample3(t *testing.T) {
	p := newPair(t, 8)
	p.does(t, begin(1, 10))
	p.decides(t, 10)
	p.does(t, flush(2, 1, 11), flush(3, 2, 12), flush(4, 1, 13), reply(10, rclunk(0)))
	p.wantWaiting(t, 1, 2, 3, 4)
}

func TestExample4(t *testing.T) {
	p := newPair(t, 8)
	p.does(t, flush(5, 5, 20))
	p.wantRows(t, api.TagRow{Tag: 5, Serial: 20, State: api.TagFlushed})
	p.refuses(t, begin(6, 20), api.ErrArg)
	p.refuses(t, flush(65535, 5, 21), api.ErrTag)
}

// The chapter's errors have these numbers.
func TestErrors(t *testing.T) {
	if api.ErrArg != errArg || api.ErrTag != errTag || api.ErrTagUsed != errTagUsed || api.ErrTagFull != errTagFull || api.ErrTagNone != errTagNone {
		t.Errorf("%d, %d, %d, %d, %d", api.ErrArg, api.ErrTag, api.ErrTagUsed, api.ErrTagFull, api.ErrTagNone)
	}
}
