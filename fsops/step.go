package fsops

import "wainscot/api"

// step is a part of what is done. What is read is read ahead of what is changed, so that a step that fails leaves the changes as they were.
type step func() api.Errno

// inTurn is these steps, one behind the other, until one fails.
func inTurn(steps ...step) step {
	return func() api.Errno {
		for _, s := range steps {
			if err := s(); err != api.OK {
				return err
			}
		}
		return api.OK
	}
}

// fails is a step that does.
func fails(err api.Errno) step { return func() api.Errno { return err } }

// unless is an error, unless all is well.
func unless(well bool, err api.Errno) api.Errno {
	if well {
		return api.OK
	}
	return err
}

// caught does a step, and answers EArg if it panics: a view that view.New did not make does, and no call may.
func caught(s step) (err api.Errno) {
	defer func() {
		if recover() != nil {
			err = api.EArg
		}
	}()
	return s()
}
