/- The laws Makes, Takes, Plays. -/
import Derived.Test.YtdpjgflemddekaaGreatDoorMRefM0
import Derived.Test.YtdpjgflemddekaaGreatDoorMLawLo
set_option maxRecDepth 100000
set_option maxHeartbeats 4000000
namespace Go.Proofs.YtdpjgflemddekaaGreatDoor
open Go.RowKit Go.Shelf
theorem af2 {w W1 W2:World}{U:co}{D:cy}{l:List OpD}(f1:Fr (w.alloc (.cells (gw j1) 30)) W1 (fun _=>False))(b:ap2 W1 w.heap.size j1 U D W2):qm w w.heap.size U D l.length 0 W2 U D:=by
 have s1:=f1.size;rw [World.size_alloc] at s1;refine ⟨b.at_,?_,?_,rfl,rfl,fun j hj=>?_,Nat.zero_le _⟩
 ·exact (((Fr.refl w (fun _=>False)).alloc _).step f1 (fun _=>False.elim)).step b.fr (fun k hk=>.inr (by have:=ak_ hk;omega))
 ·rintro k (e | e | e)
  ·rcases b.fpU k e with e | e
   ·have:=ak_ e;omega
   ·omega
  ·exact (bq3 (b.cbU k e)).elim
  ·have:=b.lo k e;omega
 ·have h1:=b.len j hj;have h3:(j1.rl j).length=0:=rfl;omega
theorem bo3 (sv:Value)(l:List OpD)(w:World)(hgl:ev w)(hS:sa w sv l):
 Calls Tryz.prog 3 #[sv] w fun e w'=>e=.returned (.bool true)/\Fr w w' (fun _=>False):=by
 go_enter Tryz.func3,Tryz.ntmps3
 go_upto_region 2 with fail
 have c1:=xm (w.alloc (.cells (gw j1) 30)) (ev.fr hgl ((Fr.refl _ _).alloc _));go_upto_region 3 with (go_at_call 7;refine c1.mono ?_;rintro e W1 ⟨rfl,f1⟩)
 clear c1;have c2:=rm w.heap.size j1 W1 (ai4 (f1.same (heap_alloc_new _ _) id)) (z_ W1) rfl rfl (by decide) (ev.fr hgl (((Fr.refl _ _).alloc _).step f1 (fun _=>False.elim)));go_upto_region 4 with (go_at_call 8;refine c2.mono ?_;rintro e W2 ⟨rfl,U,D,b⟩)
 clear c2;have c3:=an9 4 w w.heap.size U D sv l W2 (af2 f1 b) hgl hS b.r0;go_wp2_with (go_at_call 9;refine c3.mono ?_;rintro e W3 ⟨rfl,f3⟩)
 go_ret;exact ⟨rfl,f3⟩
theorem bo1 (sv:Value)(l:List OpD)(w:World)(hgl:ev w)(hS:sa w sv l):
 Calls Tryz.prog 4 #[sv] w fun e w'=>e=.returned (.bool true)/\Fr w w' (fun _=>False):=by
 go_enter Tryz.func4,Tryz.ntmps4
 go_upto_region 2 with fail
 have c1:=xm (w.alloc (.cells (gw j1) 30)) (ev.fr hgl ((Fr.refl _ _).alloc _));go_upto_region 3 with (go_at_call 7;refine c1.mono ?_;rintro e W1 ⟨rfl,f1⟩)
 clear c1;have c2:=rm w.heap.size j1 W1 (ai4 (f1.same (heap_alloc_new _ _) id)) (z_ W1) rfl rfl (by decide) (ev.fr hgl (((Fr.refl _ _).alloc _).step f1 (fun _=>False.elim)));go_upto_region 4 with (go_at_call 8;refine c2.mono ?_;rintro e W2 ⟨rfl,U,D,b⟩)
 clear c2;have c3:=an9 6 w w.heap.size U D sv l W2 (af2 f1 b) hgl hS b.r0;go_wp2_with (go_at_call 9;refine c3.mono ?_;rintro e W3 ⟨rfl,f3⟩)
 go_ret;exact ⟨rfl,f3⟩
theorem bk0 (sv:Value)(l:List OpD)(w:World)(hgl:ev w)(hS:sa w sv l):
 Calls Tryz.prog 5 #[sv] w fun e w'=>e=.returned (.bool true)/\Fr w w' (fun _=>False):=by
 go_enter Tryz.func5,Tryz.ntmps5
 go_upto_region 2 with fail
 have c1:=xm (w.alloc (.cells (gw j1) 30)) (ev.fr hgl ((Fr.refl _ _).alloc _));go_upto_region 3 with (go_at_call 7;refine c1.mono ?_;rintro e W1 ⟨rfl,f1⟩)
 clear c1;have c2:=rm w.heap.size j1 W1 (ai4 (f1.same (heap_alloc_new _ _) id)) (z_ W1) rfl rfl (by decide) (ev.fr hgl (((Fr.refl _ _).alloc _).step f1 (fun _=>False.elim)));go_upto_region 4 with (go_at_call 8;refine c2.mono ?_;rintro e W2 ⟨rfl,U,D,b⟩)
 clear c2;have c3:=an9 11 w w.heap.size U D sv l W2 (af2 f1 b) hgl hS b.r0;go_wp2_with (go_at_call 9;refine c3.mono ?_;rintro e W3 ⟨rfl,f3⟩)
 go_ret;exact ⟨rfl,f3⟩
end Go.Proofs.YtdpjgflemddekaaGreatDoor
