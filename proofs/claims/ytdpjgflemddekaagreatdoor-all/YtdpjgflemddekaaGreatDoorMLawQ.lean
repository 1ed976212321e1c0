/- The law's All. -/
import Derived.Test.YtdpjgflemddekaaGreatDoorMRefM0
import Derived.Test.YtdpjgflemddekaaGreatDoorMLawL
set_option maxRecDepth 100000
set_option maxHeartbeats 4000000
namespace Go.Proofs.YtdpjgflemddekaaGreatDoor
open Go.RowKit Go.Shelf
theorem bi5 {w W1 W2 W3:World}{U1 U2:co}{D E:cy}{l:List OpD}(f1:Fr (w.alloc (.cells (gw j1) 30)) W1 (fun _=>False))(b:ap2 W1 w.heap.size j1 U1 D W2)(b2:ap2 W2 w.heap.size U1 U2 E W3):qj w w.heap.size U2 D E l.length 0 W3 U2 D E:=by
 have s1:=f1.size;rw [World.size_alloc] at s1;have s2:=b.fr.size;have hU1:∀k,U1.fp w.heap.size k->w.heap.size<=k:=fun k hk=>(b.fpU k hk).elim (fun e=>by have:=ak_ e;omega) (fun e=>by omega)
 have hU2:∀k,U2.fp w.heap.size k->w.heap.size<=k:=fun k hk=>(b2.fpU k hk).elim (hU1 k) (fun e=>by omega)
 have hdis:∀k,D.fp k->¬E.fp k:=fun k hk e=>by have:=b.at_.sd.lt hk;have:=b2.lo k e;omega
 have hF:Fr w W2 (fun _=>False):=(((Fr.refl w (fun _=>False)).alloc _).step f1 (fun _=>False.elim)).step b.fr (fun k hk=>.inr (by have:=ak_ hk;omega))
 refine ⟨⟨b2.at_.law,b2.at_.good,b.at_.sd.frame b2.fr (fun k hk=>(b.at_.sep k hk).1),fun k hk=>⟨fun e=>?_,fun e=>(b.at_.sep k hk).2 (b2.cbU k e)⟩,b2.at_.m1,b2.at_.m2⟩,b2.at_,hdis,hF.step b2.fr (fun k hk=>.inr (hU1 k hk)),?_,rfl,rfl,rfl,fun j hj=>?_,Nat.zero_le _⟩
 ·rcases b2.fpU k e with e | e
  ·exact (b.at_.sep k hk).1 e
  ·have:=b.at_.sd.lt hk;omega
 ·rintro k (e | e | e | e)
  ·exact hU2 k e
  ·exact (bq3 (b.cbU k (b2.cbU k e))).elim
  ·have:=b.lo k e;omega
  ·have:=b2.lo k e;omega
 ·have h1:=b.len j hj;have h2:=b2.len j hj;have h3:(j1.rl j).length=0:=rfl;omega
theorem b19 (sv:Value)(l:List OpD)(w:World)(hgl:ev w)(hS:sa w sv l):
 Calls Tryz.prog 6 #[sv] w fun e w'=>e=.returned (.bool true)/\Fr w w' (fun _=>False):=by
 go_enter Tryz.func6,Tryz.ntmps6
 go_upto_region 2 with fail
 have c1:=xm (w.alloc (.cells (gw j1) 30)) (ev.fr hgl ((Fr.refl _ _).alloc _));go_upto_region 3 with (go_at_call 7;refine c1.mono ?_;rintro e W1 ⟨rfl,f1⟩)
 clear c1;have hF1:=((Fr.refl w (fun _=>False)).alloc (.cells (gw j1) 30)).step f1 (fun _=>False.elim);have c2:=rm w.heap.size j1 W1 (ai4 (f1.same (heap_alloc_new _ _) id)) (z_ W1) rfl rfl (by decide) (ev.fr hgl hF1);go_upto_region 4 with (go_at_call 8;refine c2.mono ?_;rintro e W2 ⟨rfl,U1,D,b⟩)
 clear c2;have hF2:Fr w W2 (fun _=>False):=hF1.step b.fr (fun k hk=>.inr (by have:=ak_ hk;omega))
 have hr1:U1.rl 0=[.pointer (some ⟨D.sb,0,none⟩)]:=b.r0;have c3:=rm w.heap.size U1 W2 b.at_.law b.at_.good b.at_.m1 b.at_.m2 (by rw [hr1];exact Nat.le_refl 1) (ev.fr hgl hF2);go_upto_region 5 with (go_at_call 8;refine c3.mono ?_;rintro e W3 ⟨rfl,U2,E,b2⟩)
 clear c3;have c4:=br_ w w.heap.size U2 D E sv l W3 (bi5 f1 b b2) hgl hS (by rw [b2.r0,hr1];rfl);go_wp2_with (go_at_call 9;refine c4.mono ?_;rintro e W4 ⟨rfl,f4⟩)
 go_ret;exact ⟨rfl,f4⟩
end Go.Proofs.YtdpjgflemddekaaGreatDoor
