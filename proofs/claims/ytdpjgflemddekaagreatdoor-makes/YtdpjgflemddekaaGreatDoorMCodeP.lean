/- The code: turn.findEmptyRow. -/
import Derived.Test.YtdpjgflemddekaaGreatDoorMCodeK
import Derived.Laws.MakeOwn
set_option maxRecDepth 100000
set_option maxHeartbeats 2000000
namespace Go.Proofs.YtdpjgflemddekaaGreatDoor
open Go.RowKit
def b65 (w:World)(n:Nat)(r:Option (Slot×Bool))(e:Ending)(w':World):Prop:=
 Fr w w' (fun _=>False)/\match r with
 | none=>e=gup 2
 | some (_,false)=>e=.returned (.tuple #[.slice none 0 0,.int .i64 4])
 | some (s,true)=>∃g,e=.returned (.tuple #[.slice (some ⟨g,0,none⟩) n n,.int .i64 0])/\w'.ownsRow w.heap.size 71 2 (.slice (some ⟨g,0,none⟩) n n) n (bo (ci s n))
theorem pk (s:Slot)(n k:Nat)(hk:k<n):(ci s n)[k]'(by simp [ci];exact hk)=⟨s.node,s.index+k⟩:=by simp [ci]
theorem pn (s:Slot)(n:Nat):(ci s n).length=n:=by simp [ci]
structure uy (w:World)(rb n k:Nat)(s:Slot):Prop where
 blk:∃c,w.heap[rb]?=some (.cells c 71 (0,0))/\c.size=n*2/\c.toList.take (k*2)=bo ((ci s n).take k)
theorem uy.step {w w':World}{rb n k:Nat}{s:Slot}(h:uy w rb n k s)(hk:k<n)(hw:w'=(w.setCell ⟨rb,k*2,none⟩ (.int .i64 s.node)).setCell ⟨rb,k*2+1,none⟩ (.int .i64 (s.index+k))):uy w' rb n (k+1) s:=by
 subst hw;obtain ⟨c,hb,hs,ht⟩:=h.blk;refine ⟨_,ak _ rb (k*2+1) _ (ak _ rb (k*2) _ hb),by simpa using hs,?_⟩;have hl:(ci s n).length=n:=pn s n;rw [List.take_succ_eq_append_getElem (by rw [hl];exact hk),pk s n k hk,ff,<- ht];simp only [Array.toList_setIfInBounds,bo,Slot.vals,List.flatMap_cons,List.flatMap_nil,List.append_nil];apply List.ext_getElem?;intro j;have hcl:c.toList.length=n*2:=by simpa using hs
 by_cases h1:j<k*2
 ·rw [List.getElem?_append_left (by simp;omega),List.getElem?_take_of_lt (by omega),List.getElem?_take_of_lt h1,List.getElem?_set_ne (by omega),List.getElem?_set_ne (by omega)]
 ·rw [List.getElem?_append_right (by simp;omega)];have hlen:(c.toList.take (k*2)).length=k*2:=by simp;omega
  rw [hlen];by_cases h2:j=k*2
  ·subst h2;rw [List.getElem?_take_of_lt (by omega),List.getElem?_set_ne (by omega),List.getElem?_set_self (by omega)];simp
  ·by_cases h3:j=k*2+1
   ·subst h3;rw [List.getElem?_take_of_lt (by omega),List.getElem?_set_self (by simp;omega)];simp [show k*2+1-k*2=1 by omega]
   ·rw [List.getElem?_take_eq_none (by omega),List.getElem?_eq_none (by simp;omega)]
theorem uy.cells {w:World}{rb n k:Nat}{s:Slot}(h:uy w rb n k s)(hk:k<n):(∃x,w.cell? ⟨rb,k*2,none⟩=some x)/\(∃x,w.cell? ⟨rb,k*2+1,none⟩=some x)/\w.frozen? ⟨rb,k*2,none⟩=false/\w.frozen? ⟨rb,k*2+1,none⟩=false:=by
 obtain ⟨c,hb,hs,_⟩:=h.blk;exact ⟨⟨c[k*2]'(by omega),aa hb (Array.getElem?_eq_getElem (by omega))⟩,⟨c[k*2+1]'(by omega),aa hb (Array.getElem?_eq_getElem (by omega))⟩,ab hb,ab hb⟩
theorem uy.last {w:World}{rb n k:Nat}{s:Slot}(h:uy w rb n (k+1) s)(hk:k<n):w.cell? ⟨rb,k*2,none⟩=some (.int .i64 s.node)/\w.cell? ⟨rb,k*2+1,none⟩=some (.int .i64 (s.index+k)):=by
 obtain ⟨c,hb,hs,ht⟩:=h.blk;have hl:(ci s n).length=n:=pn s n;rw [List.take_succ_eq_append_getElem (by rw [hl];exact hk),pk s n k hk,ff] at ht;have hlen:(bo ((ci s n).take k)).length=k*2:=by rw [rr];simp [hl];omega
 have key:∀j,j<2->c[k*2+j]?=[Value.int .i64 s.node,Value.int .i64 (s.index+k)][j]?:=by
  intro j hj;have h1:(c.toList.take ((k+1)*2))[k*2+j]?=c[k*2+j]?:=by rw [List.getElem?_take_of_lt (by omega)];simp
  rw [<- h1,ht,List.getElem?_append_right (by omega),hlen,show k*2+j-k*2=j by omega];rfl
 exact ⟨aa hb (key 0 (by omega)),aa hb (key 1 (by omega))⟩
theorem uy.owns {w:World}{b rb n:Nat}{s:Slot}(h:uy w rb n n s)(hb:b<=rb)(hn:n<=8):w.ownsRow b 71 2 (.slice (some ⟨rb,0,none⟩) n n) n (bo (ci s n)):=by
 obtain ⟨c,hc,hs,ht⟩:=h.blk;have hl:(ci s n).length=n:=pn s n;refine ⟨by rw [rr,hl],.inr ⟨rb,n,c,rfl,hb,hc,Nat.le_refl _,by unfold maxLen;omega,hs,?_⟩⟩;rw [ht,List.take_of_length_le (by omega)]
theorem ak8 (K:a_):∀(l:List Int) (nd:Int) (t:Slot),goK K nd l=some t->0<=t.index
 | [],_,_,h=>by cases h
 | [x],nd,t,h=>by
  simp only [goK] at h;split at h
  ·rename_i ho;cases h;simp [okK] at ho;exact ho.1
  ·cases h
 | x :: y :: r,nd,t,h=>by
  simp only [goK] at h;split at h
  ·cases hn:nf K ⟨nd,x⟩ with
   | none=>rw [hn] at h;cases h
   | some nd'=>rw [hn] at h;exact ak8 K (y :: r) nd' t h
  ·cases h
theorem av2 {K:a_}{root:Int}{l:List Int}{t:Slot}(h:az K root l=some t):0<=t.index:=by
 unfold az at h;split at h
 ·cases h
 ·exact ak8 K l root t h
theorem a05 (V:ah)(kb ub:Nat)(c:Cl)(av tv bv:Value)(th root:Int)(n:Nat)(w:World)(h:de w kb ub V c av tv bv th root)(hn1:1<=n)(hn8:n<=8)
 (hix:∀s,az V.ker root c.to=some s->s.index<=1000000) :
 Calls Tryz.prog 61 #[.pointer (some ⟨ub,0,none⟩),tv,.int .i64 n] w (b65 w n (ah2 V.ker root c.to n)):=by
 obtain ⟨i0,hi0,hz0,hz1,hz2⟩:=info_parts ol;have hmk:=fun W=>run_make (P:=Tryz.prog) W 96 71 i0 _ Tryz.underlying96 hi0 hz0 .i64 .i64 (n:Int) (n:Int) (by omega) (Int.le_refl _) (by rw [hz2];omega) (by omega)
 simp only [Int.toNat_natCast,hz1] at hmk;generalize hans:ah2 V.ker root c.to n=ans;go_enter Tryz.func61,Tryz.ntmps61
 go_wp2_with fail
 refine h.findTo.mono ?_;rintro e W1 ⟨rfl,hf1⟩;cases hfi:az V.ker root c.to with
 | none=>
  have ha:ans=none:=by rw [<- hans];simp [ah2,hfi]
  subst ha;clear hans;unfold bd gup;go_wp2;exact ⟨rfl,hf1,rfl⟩
 | some s=>
  unfold bd jx;have hsi:=hix s hfi;have hsi0:=av2 hfi;go_wp2_with fail
  generalize hW2:W1.alloc _=W2;have hf2:Fr W1 W2 (fun _=>False):=by rw [<- hW2];exact (Fr.refl _ _).alloc _
  have hbs:W2.heap[W1.heap.size]?=some (.cells #[.int .i64 s.node,.int .i64 s.index] 71 (0,0)):=by rw [<- hW2];exact heap_alloc_new _ _
  clear hW2;have hF2:=hf1.step hf2 (fun _=>False.elim);have h2:=h.frame hF2;have l1:=hf1.size;refine (vn V kb ub c av tv bv th root s.node (s.index+n-1) W2 h2.ker h2.turn).mono ?_;rintro e W3 ⟨rfl,hf3⟩;have hF3:=hF2.step hf3 (fun _=>False.elim);cases hok:okK V.ker s.node (s.index+n-1) with
  | false=>
   have ha:ans=none:=by rw [<- hans];simp [ah2,hfi,hok]
   have hsa:js V.ker s.node (s.index+n-1)=gup 2:=by simp [js,hok]
   rw [hsa];subst ha;clear hans;unfold gup;go_wp2;exact ⟨rfl,hF3,rfl⟩
  | true=>
   have ha:ans=some (s,(ci s n).all fun t=>(V.ker.held t).isNone):=by rw [<- hans];simp [ah2,hfi,hok]
   have hsa:js V.ker s.node (s.index+n-1)=.returned (.agg #[.int .i64 s.node,.int .i64 (s.index+n-1)]):=by simp [js,hok]
   rw [hsa];clear hans hsa;have hbs3:=hf3.same hbs id;go_wp2;generalize hW4:W3.alloc _=W4;have hf4:Fr W3 W4 (fun _=>False):=by rw [<- hW4];exact (Fr.refl _ _).alloc _
   have hrow0:uy W4 W3.heap.size n 0 s:=by
    rw [<- hW4];exact ⟨⟨_,heap_alloc_new _ _,size_madeCells _ _,by simp [bo]⟩⟩
   clear hW4 hmk;have hF4:=hF3.step hf4 (fun _=>False.elim);have hbs4:=hf4.same hbs3 id;have l3:=hF3.size;have hlt13:W1.heap.size<W3.heap.size:=by have:=(Array.getElem?_eq_some_iff.1 hbs).1;have:=hf3.size;omega
   have hult3:ub<W3.heap.size:=by have:=h.turn.lt;omega
   have hklt3:kb<W3.heap.size:=by have:=h.ker.fpLt (k:=kb) (.inl rfl);omega
   go_loopw [29] (fun iv wr=>∃(k:Nat),k<=n/\iv=.int .i64 k/\uy wr W3.heap.size n k s/\Fr W4 wr (fun x=>x=W3.heap.size)/\∀j,j<k->V.ker.held ⟨s.node,s.index+(j:Int)⟩=none) (fun iv _=>n-(intOf iv).toNat)
   case atStart=>exact ⟨0,Nat.zero_le _,rfl,hrow0,Fr.refl _ _,fun j hj=>absurd hj (by omega)⟩
   case round=>
    obtain ⟨k,hk,rfl,hrow,hfr,hno⟩:=hrel;have hFr:Fr w wr (fun _=>False):=hF4.step hfr (fun x hx=>.inr (by omega))
    by_cases hlt:k<n
    ·obtain ⟨⟨z0,y0⟩,⟨z1,y1⟩,f0,f1⟩:=hrow.cells hlt;have hbsr:=hfr.same hbs4 (by omega);have b0:=aa (o:=0) hbsr rfl;have b1:=aa (o:=1) hbsr rfl;have hlt2:(k:Int)<(n:Int):=by omega
     have hkz:(0:Int)<=(k:Int):=by omega
     go_wp2_with fail
     generalize hW5:(wr.setCell ⟨W3.heap.size,k*2,none⟩ _).setCell ⟨W3.heap.size,k*2+1,none⟩ _=W5;have hrow5:uy W5 W3.heap.size n (k+1) s:=hrow.step hlt hW5.symm;have hf5:Fr wr W5 (fun x=>x=W3.heap.size):=by rw [<- hW5];exact be9 _ _ _ _ _
     clear hW5;have hF5:Fr w W5 (fun _=>False):=hFr.step hf5 (fun x hx=>.inr (by omega))
     obtain ⟨r0,r1⟩:=hrow5.last hlt;have h5:=h.frame hF5;have c1:=h5.turn.ck;have c2:=h5.ker.ch;have hrun:=be (h5.ker.frame ((Fr.refl W5 (fun _=>False)).drew) (fun _ _=>id)) ⟨s.node,s.index+(k:Int)⟩ true;simp only [if_true] at hrun;clear y0 y1 f0 f1 b0 b1;cases hh:V.ker.held ⟨s.node,s.index+(k:Int)⟩ with
     | some q=>
      rw [hh] at hrun;simp only [jf,Option.isSome] at hrun;have hans:ans=some (s,false):=by
       rw [ha];congr 2;rw [List.all_eq_false];exact ⟨⟨s.node,s.index+(k:Int)⟩,List.mem_map.2 ⟨k,List.mem_range.2 hlt,rfl⟩,by simp [hh]⟩
      clear ha;generalize q.val=qv at hrun;go_region_held3 (fun w'=>w'.cell? ⟨ub,0,none⟩=some (.pointer (some ⟨kb,0,none⟩))/\w'.cell? ⟨kb,1024,none⟩=some (.map (some V.hb))/\w'.cell? ⟨W3.heap.size,k*2,none⟩=some (.int .i64 s.node)/\w'.cell? ⟨W3.heap.size,k*2+1,none⟩=some (.int .i64 (s.index+(k:Int)))) (go_keep) (fail)
      clear hrun;go_wp2;go_ret2;try rw [hans]
      exact ⟨hF5.drew,rfl⟩
     | none=>
      rw [hh] at hrun;simp only [jf,Option.isSome] at hrun;go_region_held3 (fun w'=>w'.cell? ⟨ub,0,none⟩=some (.pointer (some ⟨kb,0,none⟩))/\w'.cell? ⟨kb,1024,none⟩=some (.map (some V.hb))/\w'.cell? ⟨W3.heap.size,k*2,none⟩=some (.int .i64 s.node)/\w'.cell? ⟨W3.heap.size,k*2+1,none⟩=some (.int .i64 (s.index+(k:Int)))) (go_keep) (fail)
      clear hrun;go_wp2;go_roundw;case rel=>
       exact ⟨k+1,by omega,by go_num,⟨hrow5.blk⟩,(hfr.step hf5 (fun x hx=>.inl hx)).drew,fun j hj=>by
        by_cases hjk:j<k
        ·exact hno j hjk
        ·have:j=k:=by omega
         subst this;exact hh⟩
      case measure=>simp [intOf];omega
    ·have hke:k=n:=by omega
     have hlt2:¬(k:Int)<(n:Int):=by omega
     have hans:ans=some (s,true):=by
      rw [ha];congr 2;rw [List.all_eq_true];intro t ht;obtain ⟨i,hi,rfl⟩:=List.mem_map.1 ht;simp [hno i (by have:=List.mem_range.1 hi;omega)]
     have hrown:uy wr W3.heap.size n n s:=hke▸hrow;clear ha hke;go_wp2;go_ret2;try rw [hans]
     exact ⟨hFr,W3.heap.size,rfl,hrown.owns l3 hn8⟩
theorem br8 (m:Nat)(h:m<=10):IntKind.i64.wrap ((2:Int) ^ m)=pw m:=by
 have h1:=lq m;have h2:=ag9 m (by omega);have h3:(2:Int) ^ m=pw m:=by unfold pw;rw [Int.natCast_pow];rfl
 rw [h3];exact xa _ (by omega) (by omega)
theorem bv8 {b m:Int}(hb0:0<=b)(hb1:b<=1024)(hm0:0<=m)(hm1:m<=1024):IntKind.i64.wrap (b+m)=b+m:=xa _ (by omega) (by omega)
theorem bt3 {b m z:Int}(hb1:b<=1024)(hm1:m<=1024)(hp:1<=z)(hl:z<=1024):nu (b+m) z<=4096:=by
 have:=bh5 (b+m) z (by omega);omega
theorem az6 {bn:Nat}(h:bn<=10):(bn:Int)<=20:=by omega
theorem b13 {b n:Int}(hb0:0<=b)(hb1:b<=1024)(hn0:0<=n)(hn1:n<=10):0<=b+pw n.toNat/\b+pw n.toNat<=4096:=by
 have h1:=lq n.toNat;have h2:pw n.toNat<=1024:=Int.le_trans (xt (show n.toNat<=10 by omega)) (by decide);omega
theorem bc0 {st z:Int}{cnt:Nat}(h0:0<=st)(h1:st<=4096)(hp:1<=z)(hl:z<=1024)(hc:cnt<=8):IntKind.i64.wrap ((cnt:Int)*z)=(cnt:Int)*z/\IntKind.i64.wrap (st+(cnt:Int)*z)=st+(cnt:Int)*z:=by
 have h2:0<=(cnt:Int)*z:=Int.mul_nonneg (by omega) (by omega);have h3:(cnt:Int)*z<=8*1024:=Int.mul_le_mul (by omega) hl (by omega) (by omega);exact ⟨xa _ h2 (by omega),xa _ (by omega) (by omega)⟩
theorem ba6 {ty b:Int}{bn:Nat}(hb:bn<=10)(b' n r:Int)(h:ki ty b (bn:Int)=.node b' n r):0<=n/\n<=20:=by
 unfold ki at h;split at h
 ·cases h
 ·split at h
  ·cases h;omega
  ·split at h
   ·cases h
   ·split at h<;>cases h
theorem bk3 {w:World}{s:Slot}{g cnt:Nat}(h:w.ownsRow 0 71 2 (.slice (some ⟨g,0,none⟩) cnt cnt) cnt (bo (ci s cnt))):∀k,k<cnt->w.cell? ⟨g,k*2,none⟩=some (.int .i64 s.node)/\w.cell? ⟨g,k*2+1,none⟩=some (.int .i64 (s.index+(k:Int))):=by
 intro k hk;have hl:k<(ci s cnt).length:=by rw [pn];exact hk
 have hc:=h.cells (g:=g) rfl;have h0:=hc (k*2+0) (.int .i64 s.node) (by unfold bo;rw [j8 Slot.vals 2 Slot.vals_len _ k 0 hl (by omega),pk s cnt k hk];rfl);have h1:=hc (k*2+1) (.int .i64 (s.index+(k:Int))) (by unfold bo;rw [j8 Slot.vals 2 Slot.vals_len _ k 1 hl (by omega),pk s cnt k hk];rfl);rw [mp] at h0 h1;simp only [Nat.zero_add,Nat.add_zero] at h0 h1;exact ⟨h0,h1⟩
theorem b17 {st z:Int}{k cnt:Nat}(h0:0<=st)(h1:st<=4096)(hp:1<=z)(hl:z<=1024)(hk:k<cnt)(hc:cnt<=8):0<=st+(k:Int)*z/\st+(k:Int)*z<=1000000/\st+(k:Int)*z+z=st+((k+1:Nat):Int)*z:=by
 have h2:0<=(k:Int)*z:=Int.mul_nonneg (by omega) (by omega);have h3:(k:Int)*z<=8*1024:=Int.mul_le_mul (by omega) hl (by omega) (by omega);refine ⟨by omega,by omega,?_⟩;rw [Int.natCast_add,Int.add_mul];simp;omega
theorem bu7 {st z b:Int}{cnt:Nat}(h0:0<=st)(h1:st<=4096)(hp:1<=z)(hl:z<=1024)(hc:cnt<=8)(hb0:0<=b)(hb1:b<=1024):IntKind.i64.wrap (st+(cnt:Int)*z-b)=st+(cnt:Int)*z-b:=by
 have h2:0<=(cnt:Int)*z:=Int.mul_nonneg (by omega) (by omega);have h3:(cnt:Int)*z<=8*1024:=Int.mul_le_mul (by omega) hl (by omega) (by omega);generalize (cnt:Int)*z=q at h2 h3;simp [IntKind.wrap,IntKind.bits,IntKind.signed];split<;>omega
theorem br4 {st z en:Int}{cnt:Nat}(h:st+(cnt:Int)*z=en)(h0:0<=st)(h1:st<=4096)(hp:1<=z)(hl:z<=1024)(hc:cnt<=8):0<=en/\en<=1000000:=by
 have h2:0<=(cnt:Int)*z:=Int.mul_nonneg (by omega) (by omega);have h3:(cnt:Int)*z<=8*1024:=Int.mul_le_mul (by omega) hl (by omega) (by omega);omega
structure bz8 (w wr:World)(N kb:Nat)(V:ah)(K:a_)(eb xb fb:Nat)(oe ox of_:Obj):Prop where
 ker:∃V',aq wr kb V'/\V'.ker=K/\V'.dv=V.dv/\∀x,V'.fp kb x->V.fp kb x\/N<=x
 fr:Fr w wr (V.fp kb)
 size:N<=wr.heap.size
 e:wr.heap[eb]?=some oe
 x:wr.heap[xb]?=some ox
 f:wr.heap[fb]?=some of_
theorem br3 (K:a_)(t p:Slot)(c:KCap)(root:Int):(K.found t c p root).st=addS K.st t p:=by
 cases c<;>rfl
theorem an5 {K:a_}{f s:Slot}{ty bits root st:Int}{N:Nat}(h:∀x,K.st f=some x->x.kids.length<=N):∀k:Nat,(∀i:Nat,i<k->(⟨s.node,s.index+(i:Int)⟩:Slot)≠f)->
 ∀y,(dc K f s ty bits root st k).st f=some y->y.kids.length<=N+k
 | 0,_,y,hy=>h y hy
 | k+1,hn,y,hy=>by
  simp only [dc,br3,addS] at hy;rw [ai,ae _ _ (Ne.symm (hn k (by omega)))] at hy;cases hy
  cases hq:(dc K f s ty bits root st k).st f with
  | none=>simp;omega
  | some z=>
   have:=an5 h k (fun i hi=>hn i (by omega)) z hq
   simp;omega
theorem bo0 (V:ah)(kb ub:Nat)(c:Cl)(av tv bv:Value)(th root:Int)(f s:Slot)(b n m:Int)(cnt g:Nat)(w:World)(h:de w kb ub V c av tv bv th root)(hk:V.ker.held f=some (.untyped b n m))
 (hrow:w.ownsRow 0 71 2 (.slice (some ⟨g,0,none⟩) cnt cnt) cnt (bo (ci s cnt))) (hgk:¬V.fp kb g)
 (hc1:1<=cnt) (hc8:cnt<=8) (hb0:0<=b) (hb1:b<=1024) (hm0:0<=m) (hm1:m<=1024) (hn0:0<=n) (hn1:n<=10) (hbi0:0<=c.bits) (hbi1:c.bits<=10)
 (hk9:∀x,V.ker.st f=some x->x.kids.length<=900000) (hsf:∀i:Nat,i<cnt->(⟨s.node,s.index+(i:Int)⟩:Slot)≠f) :
 Calls Tryz.prog 64 #[.pointer (some ⟨ub,0,none⟩),.agg #[.int .i64 f.node,.int .i64 f.index],.slice (some ⟨g,0,none⟩) cnt cnt] w fun e w'=>
  e=.returned (.int .i64 (ld V.ker f s c.ty c.bits root b n m cnt).1)/\kg w kb V (ld V.ker f s c.ty c.bits root b n m cnt).2 w':=by
 have hult:=h.turn.lt;have ck':=h.turn.ck;go_enter Tryz.func64,Tryz.ntmps64
 go_wp2_with fail
 generalize hW0:w.alloc _=W0;have hf0:Fr w W0 (fun _=>False):=by rw [<- hW0];exact (Fr.refl _ _).alloc _
 have hbf:W0.heap[w.heap.size]?=some (.cells #[.int .i64 f.node,.int .i64 f.index] 71 (0,0)):=by rw [<- hW0];exact heap_alloc_new _ _
 clear hW0 ck';have h0:=h.frame hf0;have c2:=h0.ker.ch;have s0:=aa (o:=0) hbf rfl;have s1:=aa (o:=1) hbf rfl;have hrun:=be (h0.ker.frame ((Fr.refl W0 (fun _=>False)).drew) (fun _ _=>id)) f false;have hf1:=(Fr.refl W0 (fun _=>False)).alloc (.cells #[.int .i64 0,.int .i64 0,.int .i64 0] 76);have hrun2:=be (h0.ker.frame hf1.drew (fun _ _=>id)) f false;simp only [Bool.false_eq_true,if_false,hk,jf,KCap.val] at hrun hrun2;have hta:=ir (.agg #[.int .i64 b,.int .i64 n,.int .i64 m]);have l1:=World.block_lt_of_cell? _ _ c2;have l2:=World.block_lt_of_cell? _ _ s0;go_upto_region 2 with fail
 go_cut [8,9] (fun v8 v9 wx=>v9=.bool true/\∃xb,v8=.pointer (some ⟨xb,0,none⟩)/\Fr W0 wx (fun _=>False)/\W0.heap.size<=xb/\wx.heap[xb]?=some (.cells #[.int .i64 b,.int .i64 n,.int .i64 m] 76 (0,0)))
 case first=>
  go_region_held3 (fun w'=>w'.cell? ⟨kb,1024,none⟩=some (.map (some V.hb))/\w'.cell? ⟨w.heap.size,0,none⟩=some (.int .i64 f.node)/\w'.cell? ⟨w.heap.size,1,none⟩=some (.int .i64 f.index)) (go_keep) (fail)
  all_goals go_wp2
  all_goals go_meet
  all_goals exact ⟨rfl,W0.heap.size,rfl,((Fr.refl _ _).alloc _).drew,Nat.le_refl _,heap_alloc_new _ _⟩
 case rest=>
  obtain ⟨rfl,xb,rfl,hf2,hxb,hbx⟩:=hcut;clear hrun hrun2 hta c2 s0 s1 hf1 l1 l2;obtain ⟨bn,hbn⟩:=Int.eq_ofNat_of_zero_le hbi0;have hF2:=hf0.step hf2 (fun _=>False.elim);have h2:=h.frame hF2;have hw0:=hf0.size;have hw0s:w.heap.size<W0.heap.size:=(Array.getElem?_eq_some_iff.1 hbf).1;have hbf2:=hf2.same hbf id;have hlx:=(Array.getElem?_eq_some_iff.1 hbx).1;have hlf:=(Array.getElem?_eq_some_iff.1 hbf2).1;have hbn10:bn<=10:=by omega
  have x0:=aa (o:=0) hbx rfl;have x2:=aa (o:=2) hbx rfl;have cb:=h2.turn.cbits;rw [hbn] at cb;have hlu:=h2.turn.lt;have hwp:=bh9 bn (by omega);have hpp:=lq bn;have hpl:pw bn<=1024:=Int.le_trans (xt hbn10) (by decide);have hru:=fun W=>a64 (b+m) bn W (by omega) (by omega) (by omega)
  generalize hst:nu (b+m) (pw bn)=st at hru;generalize hz:pw bn=z at hwp hpp hpl hru hst;have hw1:IntKind.i64.wrap (b+m)=b+m:=bv8 hb0 hb1 hm0 hm1;have hw2:IntKind.i64.wrap ((2:Int) ^ bn)=z:=(br8 bn hbn10).trans hz;have HW1:Hid (IntKind.i64.wrap (b+m)=b+m):=hw1;have HW2:Hid (IntKind.i64.wrap ((2:Int) ^ bn)=z):=hw2;clear hw1 hw2;clear hwp;have HB:Hid (c.bits=(bn:Int)):=hbn;have HZ:Hid (pw bn=z):=hz;have HS:Hid (nu (b+m) z=st):=hst;have HKK:Hid (V.ker.held f=some (.untyped b n m)):=hk;clear hbn hz hst hk;go_upto_region 5 with fail
  go_cut [10] (fun v10 wx=>∃eb,v10=.pointer (some ⟨eb,0,none⟩)/\Fr wc wx (fun _=>False)/\wc.heap.size<=eb/\wx.heap[eb]?=some (.cells #[.int .i64 st,.int .i64 (bn:Int)] 74 (0,0)))
  case first=>
   go_region_held3 (fun w'=>w'.cell? ⟨xb,0,none⟩=some (.int .i64 b)/\w'.cell? ⟨xb,2,none⟩=some (.int .i64 m)/\w'.cell? ⟨ub,5,none⟩=some (.int .i64 (bn:Int))) (go_keep)
    ((go_at_call 97;rw [HW1.out,HW2.out];refine (hru _).mono ?_;rintro e W9 ⟨rfl,rfl⟩))
   all_goals go_wp2
   all_goals go_meet
   all_goals exact ⟨_,rfl,((Fr.refl _ _).alloc _).drew,Nat.le_refl _,heap_alloc_new _ _⟩
  case rest=>
   obtain ⟨eb,rfl,hf3,heb,hbe⟩:=hcut;have hF3:=hF2.step hf3 (fun _=>False.elim);have hbx3:=hf3.same hbx id;have hbf3:=hf3.same hbf2 id;have hne:eb≠xb:=by omega
   have hnf:eb≠w.heap.size:=by have:=hf2.size;omega
   have hnx:xb≠w.heap.size:=by omega
   have hwe:w.heap.size<=eb:=by have:=hf2.size;omega
   have hwx:w.heap.size<=xb:=by omega
   clear x0 x2 cb hru HW1 HW2 h2 hbx hbf2 hf2 hf3 hlx hlf hF2 hbf hf0 h0 heb hxb;have hst0:0<=st:=by rw [<- HS.out];exact Int.le_trans (Int.add_nonneg hb0 hm0) (ai0 _ _ hpp)
   have hst1:st<=4096:=by rw [<- HS.out];exact bt3 hb1 hm1 hpp hpl
   have e0:=aa (o:=0) hbe rfl;have e1:=aa (o:=1) hbe rfl;have x0:=aa (o:=0) hbx3 rfl;have x1:=aa (o:=1) hbx3 rfl;have hsz:∀W,Calls Tryz.prog 56 #[.agg #[.int .i64 st,.int .i64 (bn:Int)]] W (fun e w'=>e=.returned (.int .i64 z)/\Fr W w' (fun _=>False)):=fun W=>by
    have:=wm st (bn:Int) W (Int.natCast_nonneg _) (az6 hbn10);rw [Int.toNat_natCast,HZ.out] at this;exact this
   have hbd:=fun W=>aj7 b n W hn0 (Int.le_trans hn1 (by decide)) hb0 (Int.le_trans hb1 (by decide))
   have hB0:0<=b+pw n.toNat/\b+pw n.toNat<=4096:=b13 hb0 hb1 hn0 hn1;generalize hB:b+pw n.toNat=Bh at hbd hB0;obtain ⟨hw3,hw4⟩:=bc0 hst0 hst1 hpp hpl hc8;have HW3:Hid (IntKind.i64.wrap ((cnt:Int)*z)=(cnt:Int)*z):=hw3;have HW4:Hid (IntKind.i64.wrap (st+(cnt:Int)*z)=st+(cnt:Int)*z):=hw4;have HBh:Hid (b+pw n.toNat=Bh):=hB;clear hw3 hw4 hB;go_upto_region 6 with fail
   go_cut [59] (fun v59 wx=>v59=.bool (decide (Bh<st+(cnt:Int)*z))/\Fr wc wx (fun _=>False))
   case first=>
    go_region_held3 (fun w'=>w'.cell? ⟨eb,0,none⟩=some (.int .i64 st)/\w'.cell? ⟨eb,1,none⟩=some (.int .i64 (bn:Int))/\w'.cell? ⟨xb,0,none⟩=some (.int .i64 b)/\w'.cell? ⟨xb,1,none⟩=some (.int .i64 n)) (go_keep)
     (first
       |(go_at_call 56;refine (hsz _).mono ?_;rintro e W7 ⟨rfl,hf7⟩;have g0:=hf7.cell (a:=⟨eb,0,none⟩) (v:=.int .i64 st) (by first | exact e0 | assumption) id;have g1:=hf7.cell (a:=⟨eb,1,none⟩) (v:=.int .i64 (bn:Int)) (by first | exact e1 | assumption) id;have g2:=hf7.cell (a:=⟨xb,0,none⟩) (v:=.int .i64 b) (by first | exact x0 | assumption) id;have g3:=hf7.cell (a:=⟨xb,1,none⟩) (v:=.int .i64 n) (by first | exact x1 | assumption) id;have hFa:Fr wc W7 (fun _=>False):=Fr.step (by first | exact (Fr.refl _ _).drew | assumption) hf7 (fun _=>False.elim))
       |(go_at_call 98;refine (hbd _).mono ?_;rintro e W8 ⟨rfl,hf8⟩;have g4:=hf8.cell (a:=⟨eb,0,none⟩) (v:=.int .i64 st) (by first | exact e0 | assumption) id;have g5:=hf8.cell (a:=⟨eb,1,none⟩) (v:=.int .i64 (bn:Int)) (by first | exact e1 | assumption) id;have g6:=hf8.cell (a:=⟨xb,0,none⟩) (v:=.int .i64 b) (by first | exact x0 | assumption) id;have g7:=hf8.cell (a:=⟨xb,1,none⟩) (v:=.int .i64 n) (by first | exact x1 | assumption) id;have hFb:Fr wc W8 (fun _=>False):=Fr.step (by first | exact (Fr.refl _ _).drew | assumption) hf8 (fun _=>False.elim)))
    all_goals go_wp2
    all_goals go_meet
    all_goals exact ⟨by rw [HW3.out,HW4.out],by assumption⟩
   case rest=>
    obtain ⟨rfl,hf4⟩:=hcut;have hF4:=hF3.step hf4 (fun _=>False.elim);have hbe4:=hf4.same hbe id;have hbx4:=hf4.same hbx3 id;have hbf4:=hf4.same hbf3 id;clear e0 e1 x0 x1 hsz HW3 HW4 hbe hbx3 hbf3 hF3 hf4;have HA:Hid (ld V.ker f s c.ty c.bits root b n m cnt=if Bh<st+(cnt:Int)*z then (6,V.ker) else (0,{dc V.ker f s c.ty c.bits root st cnt with held:=upd (dc V.ker f s c.ty c.bits root st cnt).held f (some (.untyped b n (st+cnt*z-b)))})):=by
     show _=_;unfold ld;rw [HB.out,Int.toNat_natCast,HZ.out,HS.out,HBh.out]
    by_cases hroom:Bh<st+(cnt:Int)*z
    ·have hd:decide (Bh<st+(cnt:Int)*z)=true:=decide_eq_true hroom;rw [if_pos hroom] at HA;rw [hd];clear hroom hd;go_wp2;go_ret;rw [HA.out];exact ⟨rfl,kg.same h.ker hF4⟩
    ·have hd:decide (Bh<st+(cnt:Int)*z)=false:=decide_eq_false hroom;rw [if_neg hroom] at HA;rw [hd];clear hroom hd;have hlN:w.heap.size<=wc.heap.size:=hF4.size;have leb:=(Array.getElem?_eq_some_iff.1 hbe4).1;have lxb:=(Array.getElem?_eq_some_iff.1 hbx4).1;have lfb:=(Array.getElem?_eq_some_iff.1 hbf4).1;have hgc:=bk3 hrow;clear hrow;go_wp2;go_loopw [62] (fun iv wr=>∃(k:Nat),k<=cnt/\iv=.int .i64 k/\bz8 w wr wc.heap.size kb V (dc V.ker f s c.ty c.bits root st k) eb xb w.heap.size (.cells #[.int .i64 (st+k*z),.int .i64 (bn:Int)] 74 (0,0)) (.cells #[.int .i64 b,.int .i64 n,.int .i64 m] 76 (0,0)) (.cells #[.int .i64 f.node,.int .i64 f.index] 71 (0,0))) (fun iv _=>cnt-(intOf iv).toNat)
     case atStart=>exact ⟨0,Nat.zero_le _,rfl,⟨⟨V,(h.frame hF4).ker,rfl,rfl,fun x hx=>.inl hx⟩,hF4.mono (fun _=>False.elim),Nat.le_refl _,by simpa using hbe4,hbx4,hbf4⟩⟩
     case round=>
      obtain ⟨k,hkc,rfl,hinv⟩:=hrel;obtain ⟨⟨V',h',hK',hdv',hfp'⟩,hFr,hsz',hbe',hbx',hbf'⟩:=hinv;by_cases hlt:k<cnt
      ·obtain ⟨r0,r1⟩:=hgc k hlt;have r0':=hFr.cell r0 hgk;have r1':=hFr.cell r1 hgk;have hlt2:(k:Int)<(cnt:Int):=Int.ofNat_lt.2 hlt;have hkz:(0:Int)<=(k:Int):=Int.natCast_nonneg _;have lrg:=World.block_lt_of_cell? _ _ r0';go_wp2_with fail
       generalize hW5:wr.alloc _=W5;have hf5:Fr wr W5 (fun _=>False):=by rw [<- hW5];exact (Fr.refl _ _).alloc _
       have hbt:W5.heap[wr.heap.size]?=some (.cells #[.int .i64 s.node,.int .i64 (s.index+(k:Int))] 71 (0,0)):=by rw [<- hW5];exact heap_alloc_new _ _
       clear hW5 r0 r1 r0' r1';have t5:=(h.turn.frame hFr h.ub).frame hf5 id;have hbe5:=hf5.same hbe' id;have hbf5:=hf5.same hbf' id;have hbx5:=hf5.same hbx' id;have d5:Fr W5 W5.drew (fun _=>False):=(Fr.refl _ _).drew;have h5:=h'.frame (hf5.step d5 (fun _=>False.elim)) (fun _ _=>id);have cty:=t5.cty;have crt:=t5.croot;have e0:=aa (o:=0) hbe5 rfl;have e1:=aa (o:=1) hbe5 rfl;have f0:=aa (o:=0) hbf5 rfl;have f1:=aa (o:=1) hbf5 rfl;have q0:=aa (o:=0) hbt rfl;have q1:=aa (o:=1) hbt rfl;obtain ⟨mv,hmv⟩:∃mv,Hid ((ki c.ty (st+(k:Int)*z) (bn:Int)).val=mv):=⟨_,rfl⟩;have hmade:∀W,Calls Tryz.prog 20 #[.int .i64 c.ty,.agg #[.int .i64 (st+(k:Int)*z),.int .i64 (bn:Int)]] W (fun e w'=>e=.returned mv/\Fr W w' (fun _=>False)):=fun W=>by
        have:=aj5 c.ty (st+(k:Int)*z) (bn:Int) W;rw [hmv.out] at this;exact this
       have hkd:∀x,am f V'.M=some x->x.kids.length<1000000:=ai2 (fun y hy=>by
        rw [hK'] at hy;have:=an5 hk9 k (fun i hi=>hsf i (Nat.lt_trans hi hlt)) y hy
        omega)
       have hfound:∀W,aq W kb V'->Calls Tryz.prog 19 #[.pointer (some ⟨kb,0,none⟩),.agg #[.int .i64 s.node,.int .i64 (s.index+(k:Int))],mv,.agg #[.int .i64 f.node,.int .i64 f.index],.int .i64 root] W (fun e w'=>e=.returned (.tuple #[])/\kg W kb V' (V'.ker.found ⟨s.node,s.index+(k:Int)⟩ (ki c.ty (st+(k:Int)*z) (bn:Int)) f root) w'):=fun W hW=>by
        have:=ae3 V' kb ⟨s.node,s.index+(k:Int)⟩ f (ki c.ty (st+(k:Int)*z) (bn:Int)) root W hW hkd (ba6 hbn10);rw [hmv.out] at this;exact this
       have ne5:¬V'.fp kb eb:=fun e=>(hfp' eb e).elim (fun e=>by have:=h.ker.fpLt e;omega) (fun e=>by omega)
       have nf5:¬V'.fp kb w.heap.size:=fun e=>(hfp' _ e).elim (fun e=>by have:=h.ker.fpLt e;omega) (fun e=>by omega)
       have nx5:¬V'.fp kb xb:=fun e=>(hfp' xb e).elim (fun e=>by have:=h.ker.fpLt e;omega) (fun e=>by omega)
       have nt5:¬V'.fp kb wr.heap.size:=fun e=>by have:=h'.fpLt e;omega
       have nu5:¬V'.fp kb ub:=fun e=>(hfp' ub e).elim h.ub (fun e=>by omega)
       go_region_held3 (fun w'=>w'.cell? ⟨wr.heap.size,0,none⟩=some (.int .i64 s.node)/\w'.cell? ⟨wr.heap.size,1,none⟩=some (.int .i64 (s.index+(k:Int)))/\w'.cell? ⟨ub,4,none⟩=some (.int .i64 c.ty)/\w'.cell? ⟨ub,12,none⟩=some (.int .i64 root)/\w'.cell? ⟨eb,0,none⟩=some (.int .i64 (st+(k:Int)*z))/\w'.cell? ⟨eb,1,none⟩=some (.int .i64 (bn:Int))/\w'.cell? ⟨w.heap.size,0,none⟩=some (.int .i64 f.node)/\w'.cell? ⟨w.heap.size,1,none⟩=some (.int .i64 f.index)) (go_keep)
        (first
          |(go_at_call 20;refine (hmade _).mono ?_;rintro e W6 ⟨rfl,hf6⟩;have t6:=ef.frame (w:=W5.drew) t5 hf6 id;have a0:=t6.cty;have a1:=t6.croot;obtain ⟨a2,a3⟩:=ah3 hf6 hbt id;obtain ⟨a4,a5⟩:=ah3 hf6 hbe5 id;obtain ⟨a6,a7⟩:=ah3 hf6 hbf5 id;have h6:=h5.frame hf6 (fun _ _=>id))
          |(go_at_call 19;refine (hfound _ h6).mono ?_;rintro e W7 ⟨rfl,hK7⟩;have hf7:=hK7.frOf;have t7:=ef.frame t6 hf7 nu5;have a8:=t7.cty;have a9:=t7.croot;have hbt7:=hf7.same (hf6.same (w:=W5.drew) hbt id) nt5;have hbe7:=hf7.same (hf6.same (w:=W5.drew) hbe5 id) ne5;have hbf7:=hf7.same (hf6.same (w:=W5.drew) hbf5 id) nf5;have hbx7:=hf7.same (hf6.same (w:=W5.drew) hbx5 id) nx5;have v0:=aa (o:=0) hbt7 rfl;have v1:=aa (o:=1) hbt7 rfl;have v2:=aa (o:=0) hbe7 rfl;have v3:=aa (o:=1) hbe7 rfl;have v4:=aa (o:=0) hbf7 rfl;have v5:=aa (o:=1) hbf7 rfl))
       have hF7:Fr w W7 (V.fp kb):=((hFr.step hf5 (fun _=>False.elim)).step (d5.step hf6 (fun _=>False.elim)) (fun _=>False.elim)).step hf7 (fun x hx=>(hfp' x hx).imp id (fun e=>Nat.le_trans hlN e))
       obtain ⟨V7,h7,hk7,hd7,_,hp7⟩:=hK7;have hs5:=hf5.size;have hs6:W5.heap.size<=W6.heap.size:=hf6.size;have hs7:=hf7.size;have hfp7:∀x,V7.fp kb x->V.fp kb x\/wc.heap.size<=x:=fun x hx=>(hp7 x hx).elim (hfp' x) (fun e=>.inr (by omega))
       have hks:V7.ker=dc V.ker f s c.ty c.bits root st (k+1):=by
        rw [hk7,hK'];show _=(dc V.ker f s c.ty c.bits root st k).found ⟨s.node,s.index+(k:Int)⟩ (ki c.ty (st+(k:Int)*pw c.bits.toNat) c.bits) f root;rw [show pw c.bits.toNat=z from by rw [HB.out,Int.toNat_natCast,HZ.out],HB.out]
       obtain ⟨kz0,kz1,kz2⟩:=b17 hst0 hst1 hpp hpl hlt hc8;have hbeh:∀W,Calls Tryz.prog 98 #[.agg #[.int .i64 (st+(k:Int)*z),.int .i64 (bn:Int)]] W (fun e w'=>e=.returned (.int .i64 (st+((k+1:Nat):Int)*z))/\Fr W w' (fun _=>False)):=fun W=>by
        have:=aj7 (st+(k:Int)*z) (bn:Int) W (Int.natCast_nonneg _) (az6 hbn10) kz0 kz1;rw [Int.toNat_natCast,HZ.out,kz2] at this;exact this
       clear a0 a1 a2 a3 a4 a5 a6 a7 a8 a9 v0 v1 v4 v5 cty crt e0 e1 f0 f1 q0 q1 t6 t7 h6 h5 hmade hfound hf6 hf7 hbd;go_wp2_with fail
       refine (hbeh _).mono ?_;rintro e W8 ⟨rfl,hf8⟩;have hbe8:=hf8.same hbe7 id;have hbx8:=hf8.same hbx7 id;have hbf8:=hf8.same hbf7 id;have h8:=h7.frame hf8 (fun _ _=>id);have hF8:=hF7.step hf8 (fun _=>False.elim);have y0:=aa (o:=0) hbe8 rfl;have w0:=ab (o:=0) hbe8;have ne8:¬V7.fp kb eb:=fun e=>(hfp7 eb e).elim (fun e=>by have:=h.ker.fpLt e;omega) (fun e=>by omega)
       have hs8:=hf8.size;clear v2 v3 hbeh;go_wp2;go_roundw;case rel=>
        refine ⟨k+1,hlt,by go_num,⟨⟨V7,h8.frame (Fr.set1 _ _ _ _) (fun x hx e=>ne8 (e▸hx)),hks,hd7.trans hdv',hfp7⟩,hF8.step (Fr.set1 _ _ _ _) (fun x hx=>.inr (by omega)),by rw [bu];omega,?_,(Fr.set1 W8 eb 0 _).same hbx8 (Ne.symm hne),(Fr.set1 W8 eb 0 _).same hbf8 (Ne.symm hnf)⟩⟩
        have:=ak W8 eb 0 (.int .i64 (st+((k+1:Nat):Int)*z)) hbe8;simpa using this
       case measure=>simp [intOf];omega
      ·have hke:k=cnt:=Nat.le_antisymm hkc (Nat.le_of_not_lt hlt);have hlt2:¬(k:Int)<(cnt:Int):=by omega
       rw [hke] at hbe' hK';clear hke hlt;have y0:=aa (o:=0) hbe' rfl;have w0:=aa (o:=0) hbx' rfl;have w1:=aa (o:=1) hbx' rfl;have w2:=aa (o:=2) hbx' rfl;have z2:=ab (o:=2) hbx';have ne5:¬V'.fp kb xb:=fun e=>(hfp' xb e).elim (fun e=>by have:=h.ker.fpLt e;omega) (fun e=>by omega)
       have nf5:¬V'.fp kb w.heap.size:=fun e=>(hfp' _ e).elim (fun e=>by have:=h.ker.fpLt e;omega) (fun e=>by omega)
       have hwm:IntKind.i64.wrap (st+(cnt:Int)*z-b)=st+(cnt:Int)*z-b:=bu7 hst0 hst1 hpp hpl hc8 hb0 hb1;obtain ⟨mk,hmk⟩:∃mk,st+(cnt:Int)*z-b=mk:=⟨_,rfl⟩;generalize hE:st+(cnt:Int)*z=en at y0 hmk hbe' hwm HA;have hmb:=br4 hE hst0 hst1 hpp hpl hc8;go_wp2_with fail
       have hbx5:(wr.setCell ⟨xb,2,none⟩ (.int .i64 mk)).heap[xb]?=some (.cells #[.int .i64 b,.int .i64 n,.int .i64 mk] 76 (0,0)):=by
        have:=ak wr xb 2 (.int .i64 mk) hbx';simpa using this
       have hf5:=Fr.set1 wr xb 2 (.int .i64 mk);generalize wr.setCell ⟨xb,2,none⟩ (.int .i64 mk)=W5 at hf5 hbx5;have h5:=h'.frame hf5 (fun x hx e=>ne5 (e▸hx))
       have hbf5:=hf5.same hbf' (Ne.symm hnx);have hF5:Fr w W5 (V.fp kb):=hFr.step hf5 (fun x hx=>.inr (by omega))
       have d5:Fr W5 W5.drew (fun _=>False):=(Fr.refl _ _).drew;obtain ⟨W6,hrun,hm6,hf6,_⟩:=(h5.frame d5 (fun _ _=>id)).held.put_run em Tryz.underlying59 f (.untyped b n mk);simp only [Slot.val,KCap.val] at hrun;have h6:=(h5.frame d5 (fun _ _=>id)).putH hm6 hf6;have nh:∀{x:Nat} {cc:Array Value} {t:TypeId},W5.heap[x]?=some (.cells cc t (0,0))->x≠V'.hb:=fun hx e=>di h5.held (e▸hx)
       have hbf6:=hf6.same (d5.same hbf5 id) (nh hbf5);have hbx6:=hf6.same (d5.same hbx5 id) (nh hbx5);have c0:=h5.ch;have c1:=h6.ch;have f0:=aa (o:=0) hbf5 rfl;have f1:=aa (o:=1) hbf5 rfl;have f2:=aa (o:=0) hbf6 rfl;have f3:=aa (o:=1) hbf6 rfl;have p0:=aa (o:=0) hbx5 rfl;have p1:=aa (o:=1) hbx5 rfl;have p2:=aa (o:=2) hbx5 rfl;have p3:=aa (o:=0) hbx6 rfl;have p4:=aa (o:=1) hbx6 rfl;have p5:=aa (o:=2) hbx6 rfl;clear y0 w0 w1 w2 z2;go_region_held3 (fun w'=>w'.cell? ⟨kb,1024,none⟩=some (.map (some V'.hb))/\w'.cell? ⟨w.heap.size,0,none⟩=some (.int .i64 f.node)/\w'.cell? ⟨w.heap.size,1,none⟩=some (.int .i64 f.index)/\w'.cell? ⟨xb,0,none⟩=some (.int .i64 b)/\w'.cell? ⟨xb,1,none⟩=some (.int .i64 n)/\w'.cell? ⟨xb,2,none⟩=some (.int .i64 mk)) (go_keep) (fail)
       have hF6:Fr w W6 (V.fp kb):=(hF5.step d5 (fun _=>False.elim)).step hf6 (fun x hx=>(hfp' x (.inr (.inl hx))).imp id (fun e=>Nat.le_trans hlN e))
       have hKe:ah.ker {V' with H:=putM f (.untyped b n mk) V'.H}={dc V.ker f s c.ty c.bits root st cnt with held:=upd (dc V.ker f s c.ty c.bits root st cnt).held f (some (.untyped b n mk))}:=by
        rw [<- hK'];simp only [ah.ker,ju]
       have hfp6:∀x,ah.fp kb {V' with H:=putM f (.untyped b n mk) V'.H} x->V.fp kb x\/w.heap.size<=x:=fun x hx=>(hfp' x hx).imp id (fun e=>Nat.le_trans hlN e)
       clear hrun c0 c1 f0 f1 f2 f3 p0 p1 p2 p3 p4 p5;rw [hmk] at HA;go_wp2;go_ret;rw [HA.out];exact ⟨rfl,_,h6,hKe,hdv',hF6,hfp6⟩
end Go.Proofs.YtdpjgflemddekaaGreatDoor
