package manifest

import (
	"slices"

	"convoy/api"
	"convoy/numbered"
)

// step: one of the drive's, which rejects it if it is dead or has no room.
type step func() api.Errno

// run executes the steps one after another, up to the first that is rejected.
func (m *Manifest) run(steps ...step) api.Errno {
	for _, execute := range steps {
		if execute() != api.OK {
			m.dead = true
			return api.ErrDead
		}
	}
	return api.OK
}

// switchTo: the steps that make the manifest's log, with these bytes, the current one. The one before it is current until the rename, and so is complete whenever power is lost.
func (m *Manifest) switchTo(b []byte) []step {
	var leftover, others []string
	if slices.Contains(m.drive.Names(), nextCurrent) {
		leftover = append(leftover, nextCurrent)
	}
	// The manifest's own log is not there yet.
	for _, n := range m.logs() {
		others = append(others, numbered.Name(logPrefix, n))
	}
	return slices.Concat(
		m.deletion(leftover),
		m.durably(m.log(), b),
		m.durably(nextCurrent, []byte(m.log())),
		[]step{func() api.Errno { return m.drive.Rename(nextCurrent, current) }},
		m.deletion(others),
	)
}

// durably: the steps that append to a file what then outlives a loss of power.
func (m *Manifest) durably(name string, b []byte) []step {
	return []step{
		func() api.Errno { return m.drive.Append(name, b) },
		func() api.Errno { return m.drive.Sync(name) },
	}
}

// deletion: the steps that delete files.
func (m *Manifest) deletion(names []string) []step {
	var steps []step
	for _, name := range names {
		steps = append(steps, func() api.Errno { return m.drive.Delete(name) })
	}
	return steps
}
