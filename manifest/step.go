package manifest

import (
	"convoy/api"
	"convoy/drive"
)

// step is a step of a drive that is still to be executed.
type step func() api.Errno

// appending returns the step that appends bytes to a file.
func appending(d *drive.Drive, name string, b []byte) step {
	return func() api.Errno { return d.Append(name, b) }
}

// syncing returns the step that makes a file's bytes durable.
func syncing(d *drive.Drive, name string) step {
	return func() api.Errno { return d.Sync(name) }
}

// deleting returns the step that removes a file.
func deleting(d *drive.Drive, name string) step {
	return func() api.Errno { return d.Delete(name) }
}

// execute executes steps, one after another; ErrDead if one is rejected, for whatever reason: the manifest is dead then.
func (m *Manifest) execute(steps ...step) api.Errno {
	for _, s := range steps {
		if s() != api.OK {
			m.dead = true
			return api.ErrDead
		}
	}
	return api.OK
}

// writeEdit appends the payload of an edit to the manifest's log.
func (m *Manifest) writeEdit(payload []byte) api.Errno {
	log := fileName(logPrefix, m.log)
	return m.execute(appending(m.d, log, sealed(payload)), syncing(m.d, log))
}

// switchLog makes the manifest's log the current one, with a snapshot of what an edit makes of the version.
func (m *Manifest) switchLog(e api.Edit) api.Errno {
	log := fileName(logPrefix, m.log)
	after, _ := Fit(m.Version(), e)
	var steps []step
	if exists(m.d, draft) {
		steps = append(steps, deleting(m.d, draft))
	}
	steps = append(steps,
		appending(m.d, log, snapshot(after)), syncing(m.d, log),
		appending(m.d, draft, []byte(log)), syncing(m.d, draft),
		func() api.Errno { return m.d.Rename(draft, pointer) },
	)
	for _, name := range m.d.Names() {
		if number(logPrefix, name) > 0 && name != log {
			steps = append(steps, deleting(m.d, name))
		}
	}
	return m.execute(steps...)
}
