package journal

import (
	"passkey/api"
	"passkey/flash"
)

// step is a change of a flash, during which the power can fail.
type step interface {
	run(f api.Flash, budget int) (api.Flash, int, api.Errno)
}

// erasing is the step that erases a page.
type erasing struct {
	page int
}

func (s erasing) run(f api.Flash, budget int) (api.Flash, int, api.Errno) {
	return flash.Erase(f, s.page, budget)
}

// programming is the step that programs bytes from an offset of a page.
type programming struct {
	page, at int
	data     []byte
}

func (s programming) run(f api.Flash, budget int) (api.Flash, int, api.Errno) {
	return flash.Program(f, s.page, s.at, s.data, budget)
}

// perform runs the steps one after another, until the power fails, and returns the journal of the flash then.
func perform(f api.Flash, budget int, steps ...step) (api.Journal, int, api.Errno) {
	for _, s := range steps {
		var e api.Errno
		f, budget, e = s.run(f, budget)
		if e != api.OK {
			return api.Journal{Flash: f}, 0, e
		}
	}
	j, e := Mount(f)
	return j, budget, e
}
