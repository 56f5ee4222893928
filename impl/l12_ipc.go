package impl

// IpcSend lets a thread send.
func IpcSend(k Kern, thread int, c Cap, msg uint32, xfer uint32, call bool, waits bool) (Kern, int) {
	return Kern{}, 0
}

// IpcRecv lets a thread receive.
func IpcRecv(k Kern, thread int, c Cap, xfer uint32, waits bool) (Kern, int) { return Kern{}, 0 }

// IpcReply lets a thread reply.
func IpcReply(k Kern, thread int, msg uint32) (Kern, int) { return Kern{}, 0 }

// IpcSignal gives notice.
func IpcSignal(k Kern, c Cap) (Kern, int) { return Kern{}, 0 }

// IpcFault is a fault of a thread.
func IpcFault(k Kern, thread int, msg uint32) Kern { return Kern{} }
