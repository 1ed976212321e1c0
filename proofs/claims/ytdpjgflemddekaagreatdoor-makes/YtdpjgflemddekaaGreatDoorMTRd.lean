/- The document's answer: a capability is taken away. -/
import Derived.Test.YtdpjgflemddekaaGreatDoorMTRc
set_option maxRecDepth 100000
set_option maxHeartbeats 4000000
namespace Go.Proofs.YtdpjgflemddekaaGreatDoor
open Go.RowKit
theorem bu0 (S:RS)(V:ax)(kb:Nat)(ty b bits r g m:Int)(w:World)(h:RD w kb S V)(hnN:S.R.N.length<=900000)(hnT:S.R.T.length<=900000)(hnD:S.D.length<=900000)(hq:QIn S)(hbits:ty=2->2<=bits/\bits<=20):
 Calls Tryz.prog 115 #[.pointer (some ⟨kb,0,none⟩),r8 ty b bits r g m] w fun e' w'=>e'=.returned (.tuple #[])/\∃V',fh w kb V (jd S ty b bits) V' w'/\V'.bv=V.bv/\V'.sv=V.sv:=by
 by_cases h2:ty=2
 ·subst h2;refine (bj6 S V kb b bits r g m w h hnN hnT hnD (hbits rfl)).mono ?_;rintro e w' ⟨rfl,nv,dv,hO⟩;exact ⟨rfl,_,hO,rfl,rfl⟩
 ·by_cases h4:ty=4
  ·subst h4;refine (bi2 S V kb b bits r g m w h hnT hq.1).mono ?_;rintro e w' ⟨rfl,tv,qv,hO⟩;exact ⟨rfl,_,hO,rfl,rfl⟩
  ·by_cases h3:ty=3
   ·subst h3;refine (bx_ S V kb b bits r g m w h hnT hq).mono ?_;rintro e w' ⟨rfl,qv,hO⟩;exact ⟨rfl,_,hO,rfl,rfl⟩
   ·refine (bb7 S V kb ty b bits r g m w h h2 h3 h4).mono ?_;rintro e w' ⟨rfl,hrd,hf⟩;exact ⟨rfl,V,⟨hrd,hf.mono (fun _=>False.elim),fun k hk=>.inl hk⟩,rfl,rfl⟩
def mr (B:List aw)(k:Nat):List aw:=(B.take k).map aw.less++B.drop k
theorem ro (B:List aw)(k:Nat):(mr B k).length=B.length:=by simp [mr];omega
theorem be2 (B:List aw):mr B B.length=B.map aw.less:=by simp [mr]
theorem ae6 (B:List aw)(k j:Nat)(hk:k<=B.length):(mr B k)[j]?=if j<k then (B[j]?).map aw.less else B[j]?:=by
 unfold mr;by_cases h:j<k
 ·rw [if_pos h,List.getElem?_append_left (by simp;omega),List.getElem?_map,List.getElem?_take,if_pos h]
 ·rw [if_neg h,List.getElem?_append_right (by simp;omega),List.getElem?_drop];congr 1;simp;omega
theorem ao6 (B:List aw)(k:Nat)(hk:k<B.length):(mr B k)[k]'(by rw [ro];exact hk)=B[k]:=by
 have:=ae6 B k k (by omega);rw [if_neg (by omega),List.getElem?_eq_getElem hk,List.getElem?_eq_getElem (by rw [ro];exact hk)] at this;exact Option.some.inj this
theorem a1_ (B:List aw)(k:Nat)(hk:k<B.length):mr B (k+1)=(mr B k).set k B[k].less:=by
 apply List.ext_getElem?;intro j;rw [ae6 B (k+1) j (by omega),List.getElem?_set];by_cases hj:k=j
 ·subst hj;rw [if_pos (by omega),if_pos rfl,if_pos (by rw [ro];exact hk),List.getElem?_eq_getElem hk];rfl
 ·rw [if_neg hj,ae6 B k j (by omega)];by_cases h:j<k
  ·rw [if_pos h,if_pos (by omega)]
  ·rw [if_neg h,if_neg (by omega)]
def Src (w:World)(sv:Value)(m:Nat)(news:List Value):Prop:=
 (sv=.slice none 0 0/\m=0/\news=[])\/∃ad c,sv=.slice (some ad) m c/\∀j u,news[j]?=some u->w.cell? (ad.add j)=some u
theorem Src.owns {w:World}{b t s n:Nat}{v:Value}{xs:List Value}(h:w.ownsRow b t s v n xs):Src w v n xs:=by
 have h0:=h;rcases h.2 with ⟨rfl,rfl⟩ | ⟨g,cap,cur,rfl,_⟩
 ·exact .inl ⟨rfl,rfl,List.length_eq_zero_iff.1 (by rw [h.1];omega)⟩
 ·exact .inr ⟨_,_,rfl,h0.cells rfl⟩
theorem Src.frame {w w':World}{X:Nat->Prop}{v:Value}{n:Nat}{xs:List Value}(h:Src w v n xs)(hf:Fr w w' X)(hn:∀k,v.ownBlock=some k->¬X k):Src w' v n xs:=by
 rcases h with h | ⟨ad,c,rfl,h⟩
 ·exact .inl h
 ·refine .inr ⟨ad,c,rfl,fun j u hu=>hf.cell (h j u hu) ?_⟩
  have:(ad.add j).block=ad.block:=by unfold Addr.add;split<;>rfl
  rw [this];exact hn _ rfl
theorem gi {P:Program}(w:World){ops:Array Oper}{rest:List Oper}{o:Oper}{a:Act}{Q:Exit->Act->World->Prop}(hgd:o.guard=none)(s x:Operand)(t:TypeId)
 (ho:o.op=.call {callee:=.builtin .append,args:=#[s,x],argTypes:=#[t,t]})
 (base:Nat) (e:TypeId) (i:TypeInfo) (z:Value) (size bytes:Nat) (ht:P.underlying t=some (.slice e)) (hi:P.info? e=some i) (hz:i.zero=some z)
 (hsize:i.size=size) (hby:i.bytes=bytes) (hzs:z.cells.size=size) (hsz:0<size)
 (v:Value) (n:Nat) (xs:List Value) (hs:a.eval s=v) (hown:w.ownsRow base e size v n xs)
 (sv:Value) (m:Nat) (news:List Value) (hx:a.eval x=sv) (hsrc:Src w sv m news) (hl:news.length=m*size) (h1:∀u∈news,u.oneCell'=true)
 (h63:n+m<=maxLen) (hbytes:(n+m)*bytes<=140737488355328) (hbase:base<=w.heap.size)
 (h:∀v' w',w'.ownsRow base e size v' (n+m) (xs++news)->w.grownBy w' v.ownBlock->wpList P ops Q rest (a.put o.dst v') w'):wpList P ops Q (o :: rest) a w:=by
 rcases hsrc with ⟨rfl,rfl,rfl⟩ | ⟨ad,c,rfl,hc⟩
 ·refine wpList_append_own_none hgd s x t ho base e i size ht hi v n xs hs hown hx (h v w ?_ ⟨rfl,rfl,rfl,Nat.le_refl _,fun _ _ _=>rfl⟩);simpa using hown
 ·exact wpList_append_own w hgd s x t ho base e i z size bytes ht hi hz hsize hby hzs hsz v n xs hs hown ad m c news hx hl hc h1 h63 hbytes hbase (fun v' w' g1 g2 _=>h v' w' g1 g2)
theorem az7 (L:List aw)(i:Nat)(up:Int):d_ L i up=if 0<up then L.take i++((((L.take (ie L i up)).drop (i+1)).map aw.less)++L.drop (ie L i up)) else L.take i++(L.drop (ie L i up)++(((L.take (ie L i up)).drop (i+1)).map aw.less)):=rfl
theorem bx1 (L:List aw)(i x:Nat):((L.take x).drop (i+1)).flatMap aw.vals=((gn L).take (x*9)).drop ((i+1)*9):=by
 rw [qo _ 9 aw.vals_len,qn _ 9 aw.vals_len];rfl
theorem uw (S:RS)(V:ax)(kb i:Nat)(w:World)(h:RD w kb S V)(hi:i<S.R.L.length)
 (hnL:S.R.L.length<=900000) (hnN:S.R.N.length<=900000) (hnT:S.R.T.length<=900000) (hnD:S.D.length<=900000) (hq:QIn S) (hup:∀j (hj:j<S.R.L.length),0<=S.R.L[j].up/\S.R.L[j].up<=900000) (hbits:S.R.L[i].ty=2->2<=S.R.L[i].bits/\S.R.L[i].bits<=20) :
 Calls Tryz.prog 102 #[.pointer (some ⟨kb,0,none⟩),.int .i64 i] w fun e' w'=>e'=.returned (.tuple #[])/\∃V',fh w kb V (ik S i S.R.L[i]) V' w'/\V'.bv=V.bv/\V'.sv=V.sv:=by
 obtain ⟨i0,hi0,hz0,hz1,hz2⟩:=info_parts av0;have hcl:=h.ref.cl;obtain ⟨g,cap,hlv,hcap,hmax,hglt⟩:=ep h.ref.l (by omega);rw [hlv] at hcl;obtain ⟨e0,e1,e2,e3,e4,e5,e6,e7,e8⟩:a75 w g (i*9) S.R.L[i]:=by
  obtain ⟨A,cap',hlv',hA⟩:=h.ref.ll;obtain ⟨g',rfl,hc⟩:=hA (by omega);rw [hlv] at hlv';cases hlv'
  exact aa0 hc i hi
 have hklt:kb<w.heap.size:=World.block_lt_of_cell? w _ hcl;unfold maxLen at hmax;go_enter Tryz.func102,Tryz.ntmps102
 go_wp2_with fail
 generalize hW1:w.alloc (Obj.cells #[.int .i64 S.R.L[i].ty,.int .i64 S.R.L[i].base,.int .i64 S.R.L[i].bits,.int .i64 S.R.L[i].rights,.int .i64 S.R.L[i].badge,.int .i64 S.R.L[i].mark] 46)=W1;have hf1:Fr w W1 (fun _=>False):=by rw [<- hW1];exact (Fr.refl _ _).alloc _
 have hs1:w.heap.size+1<=W1.heap.size:=by rw [<- hW1];simp
 have hb1:W1.heap[w.heap.size]?=some (Obj.cells #[.int .i64 S.R.L[i].ty,.int .i64 S.R.L[i].base,.int .i64 S.R.L[i].bits,.int .i64 S.R.L[i].rights,.int .i64 S.R.L[i].badge,.int .i64 S.R.L[i].mark] 46):=by rw [<- hW1];exact heap_alloc_new _ _
 clear hW1;have h1:RD W1 kb S V:=h.frame hf1 (fun _ _=>id);refine (me S.R.L kb V.lv i W1 (by omega) hi h1.ref.cl h1.ref.ll).mono ?_;rintro x1 w2 ⟨rfl,q,rfl⟩;have hx1:i+1<=ie S.R.L i S.R.L[i].up:=by unfold ie;omega
 have hx2:ie S.R.L i S.R.L[i].up<=S.R.L.length:=ac_ _ _ _ hi;have hsp:=az7 S.R.L i S.R.L[i].up;generalize hx:ie S.R.L i S.R.L[i].up=x at hx1 hx2 hsp;clear hx;have HSP:Hid (d_ S.R.L i S.R.L[i].up=if 0<S.R.L[i].up then S.R.L.take i++(((S.R.L.take x).drop (i+1)).map aw.less++S.R.L.drop x) else S.R.L.take i++(S.R.L.drop x++((S.R.L.take x).drop (i+1)).map aw.less)):=hsp;clear hsp;generalize hU:S.R.L[i].up=up at HSP ⊢;have hU2:=hup i hi;rw [hU] at hU2;have hrl:(gn S.R.L).length=S.R.L.length*9:=n7 _ 9 aw.vals_len _;generalize hB:(S.R.L.take x).drop (i+1)=B at HSP;have hBl:B.length=x-(i+1):=by rw [<- hB];simp;omega
 have hBrow:B.flatMap aw.vals=((gn S.R.L).take (x*9)).drop ((i+1)*9):=by rw [<- hB];exact bx1 _ _ _
 have HBrow:Hid (B.flatMap aw.vals=((gn S.R.L).take (x*9)).drop ((i+1)*9)):=hBrow;have HBl:Hid (B.length=x-(i+1)):=hBl;have hBle:B.length+(i+1)<=x/\x<=B.length+(i+1):=by omega
 have hBup:∀j (hj:j<B.length),0<=B[j].up/\B[j].up<=900000:=by
  intro j hj;have hj2:i+1+j<S.R.L.length:=by omega
  have:B[j]=S.R.L[i+1+j]:=by subst hB;simp
  rw [this];exact hup _ hj2
 clear hB hBrow hBl;have h2:RD (W1.drewN q) kb S V:=h1.frame ((Fr.refl _ (fun _=>False)).drewN q) (fun _ _=>id);have hf2:Fr w (W1.drewN q) (fun _=>False):=hf1.drewN q;have hb2:(W1.drewN q).heap[w.heap.size]?=_:=hb1;have hs2:w.heap.size+1<=(W1.drewN q).heap.size:=hs1;generalize W1.drewN q=W2 at h2 hf2 hb2 hs2 ⊢;have hc2:W2.cell? ⟨kb,0,none⟩=some (.slice (some ⟨g,0,none⟩) S.R.L.length cap):=by rw [<- hlv];exact h2.ref.cl
 have hown2:W2.ownsRow 0 108 9 (.slice (some ⟨g,0,none⟩) S.R.L.length cap) S.R.L.length (gn S.R.L):=by rw [<- hlv];exact h2.ref.l
 clear e0 e1 e2 e3 e4 e5 e6 e7 e8 hf1 hs1 hb1 h1 hcl;go_upto_region 4 with fail
 go_cut [7] (fun v7 wx=>∃A7 c7,v7=.slice A7 B.length c7/\wx.ownsRow W2.heap.size 108 9 (.slice A7 B.length c7) B.length (B.flatMap aw.vals)/\Fr W2 wx (fun _=>False))
 case first=>
  have hsrc1:∀c,Src W2 (.slice (if cap=i+1 then some ⟨g,0,none⟩ else some ⟨g,(i+1)*9,none⟩) (x-(i+1)) c) (x-(i+1)) (B.flatMap aw.vals):=by
   intro c;right;by_cases hce:cap=i+1
   ·rw [if_pos hce];refine ⟨_,_,rfl,fun j u hu=>?_⟩
    have:B=[]:=List.length_eq_zero_iff.1 (by omega);rw [this] at hu;cases hu
   ·rw [if_neg hce];refine ⟨_,_,rfl,fun j u hu=>?_⟩
    rw [HBrow.out,List.getElem?_drop,List.getElem?_take] at hu;split at hu
    ·have:=hown2.cells (g:=g) rfl ((i+1)*9+j) u hu;rw [mp] at this ⊢;simpa using this
    ·cases hu
  have hBl2:(B.flatMap aw.vals).length=(x-(i+1))*9:=by rw [n7 _ 9 aw.vals_len,HBl.out]
  go_wp2_with (at_builtin;go_must (refine gi _ rfl _ _ 100 rfl W2.heap.size 108 i0 _ 9 72 Tryz.underlying100 hi0 hz0 hz1 hz2 rfl (by decide) _ 0 [] rfl (World.ownsRow_nil _ _ _ _) _ (x-(i+1)) (B.flatMap aw.vals) rfl (hsrc1 _) hBl2 (fun u hu=>j7 _ aw.one _ u hu) ?_ ?_ (Nat.le_refl _) ?_))
  ·unfold maxLen;omega
  ·omega
  all_goals
   intro v3 W3 hown3 hg3;have hf3:Fr W2 W3 (fun _=>False):=(Fr.refl _ _).grown hg3 (by simp [Value.ownBlock]);rw [<- HBl.out] at hown3;obtain ⟨A7,c7,rfl⟩:=im hown3;clear hg3;go_wp2;go_meet;case rel=>exact ⟨A7,c7,rfl,hown3,hf3⟩
 case rest=>
  obtain ⟨A7,c7,rfl,hown3,hf3⟩:=hcut;have h3:RD wc kb S V:=h2.frame hf3 (fun _ _=>id);have hb3:=hf3.same hb2 id;have hf3w:Fr w wc (fun _=>False):=hf2.step hf3 (fun _=>False.elim);have hA7:∀k,(Value.slice A7 B.length c7).ownBlock=some k->w.heap.size+1<=k:=fun k hk=>Nat.le_trans hs2 (hown3.lt k hk).1
  clear h2 hf2 hb2 hc2 hown2;go_wp2;go_loopw [8] (fun j w'=>∃k:Nat,j=.int .i64 k/\k<=B.length/\w'.ownsRow W2.heap.size 108 9 (.slice A7 B.length c7) B.length ((mr B k).flatMap aw.vals)/\Fr wc w' (fun r=>(Value.slice A7 B.length c7).ownBlock=some r)) (fun j _=>B.length-(intOf j).toNat)
  case atStart=>exact ⟨0,rfl,by omega,by simpa [mr] using hown3,Fr.refl _ _⟩
  case round=>
   obtain ⟨k,rfl,hk,hown,hfr⟩:=hrel;by_cases hlt:k<B.length
   ·obtain ⟨g7,cap7,hv7,_,_,hg7⟩:=ep hown (by omega);cases hv7
    have hcu:wr.cell? ⟨g7,k*9+8,none⟩=some (.int .i64 B[k].up):=by
     have hl:=j8 aw.vals 9 aw.vals_len (mr B k) k 8 (by rw [ro];exact hlt) (by omega);rw [ao6 B k hlt] at hl;have:=hown.cells (g:=g7) rfl (k*9+8) _ (by rw [hl];rfl);rw [mp] at this;simpa using this
    have hz7:wr.frozen? ⟨g7,k*9+8,none⟩=false:=by
     obtain ⟨_,_,hcc⟩:=nz hown rfl;exact ab hcc
    have hbu:=hBup k hlt;have hset:=eh hown (k*9+8) (.int .i64 (B[k].up-1));have hsr:((mr B k).flatMap aw.vals).set (k*9+8) (.int .i64 (B[k].up-1))=(mr B (k+1)).flatMap aw.vals:=by
     rw [a1_ B k hlt];have:=lg aw.vals 9 aw.vals_len (.int .i64 (B[k].up-1)) B[k].less (mr B k) k 8 (by rw [ro];exact hlt) (by omega) (by rw [ao6 B k hlt];rfl);exact this
    rw [hsr] at hset;clear hsr;go_wp2;go_roundw;case rel=>exact ⟨k+1,by go_num,by omega,hset,hfr.setCell (.inl rfl) _ _⟩
    case measure=>simp [intOf];omega
   ·obtain rfl:k=B.length:=by omega
    rw [be2] at hown;have h4:RD wr kb S V:=h3.frame hfr (fun k hk e=>by have:=hA7 k e;have:=h.fqLt hk;omega);have hb4:=hfr.same hb3 (fun e=>by have:=hA7 _ e;omega);have hf4w:Fr w wr (fun _=>False):=hf3w.step hfr (fun k hk=>.inr (by have:=hA7 k hk;omega))
    have hc4:wr.cell? ⟨kb,0,none⟩=some (.slice (some ⟨g,0,none⟩) S.R.L.length cap):=by rw [<- hlv];exact h4.ref.cl
    have hown4:wr.ownsRow 0 108 9 (.slice (some ⟨g,0,none⟩) S.R.L.length cap) S.R.L.length (gn S.R.L):=by rw [<- hlv];exact h4.ref.l
    have hs4:W2.heap.size<=wr.heap.size:=Nat.le_trans hf3.size hfr.size;have hmL:(B.map aw.less).length=B.length:=by simp
    generalize hM:B.map aw.less=M at hown HSP hmL;clear hM hfr hf3w hb3 h3 hf3 hown3 hBup HBl HBrow;have hsA:∀c,Src wr (.slice (some ⟨g,0,none⟩) i c) i ((gn S.R.L).take (i*9)):=fun c=>.inr ⟨_,_,rfl,aq8 hown4 _⟩
    have hlA:((gn S.R.L).take (i*9)).length=i*9:=by rw [List.length_take,hrl];omega
    have HLA:Hid (((gn S.R.L).take (i*9)).length=i*9):=hlA;have HRL:Hid ((gn S.R.L).length=S.R.L.length*9):=hrl;clear hlA hrl;go_wp2_with (at_builtin;go_must (refine gi _ rfl _ _ 100 rfl wr.heap.size 108 i0 _ 9 72 Tryz.underlying100 hi0 hz0 hz1 hz2 rfl (by decide) _ 0 [] rfl (World.ownsRow_nil _ _ _ _) _ i ((gn S.R.L).take (i*9)) rfl (hsA _) HLA.out (fun u hu=>j7 _ aw.one _ u (List.mem_of_mem_take hu)) ?_ ?_ (Nat.le_refl _) ?_))
    ·unfold maxLen;omega
    ·omega
    intro v5 W5 hown5 hg5;have hf5:Fr wr W5 (fun _=>False):=(Fr.refl _ _).grown hg5 (by simp [Value.ownBlock]);have h5:=h4.frame hf5 (fun _ _=>id);have hM5:=hf5.owns hown (fun _ _=>id);have hb5:=hf5.same hb4 id;have hf5w:=hf4w.step hf5 (fun _=>False.elim);have hc5:W5.cell? ⟨kb,0,none⟩=some (.slice (some ⟨g,0,none⟩) S.R.L.length cap):=hf5.cell hc4 id;have hownL5:W5.ownsRow 0 108 9 (.slice (some ⟨g,0,none⟩) S.R.L.length cap) S.R.L.length (gn S.R.L):=hf5.owns hown4 (fun _ _=>id);have hs5:=hf5.size;have hne7:∀k,(Value.slice A7 B.length c7).ownBlock=some k->k<wr.heap.size:=fun k hk=>(hown.lt k hk).2
    have hMl2:(M.flatMap aw.vals).length=B.length*9:=by rw [n7 _ 9 aw.vals_len,hmL]
    have HML:Hid ((M.flatMap aw.vals).length=B.length*9):=hMl2;have HmL:Hid (M.length=B.length):=hmL;have hdl:((gn S.R.L).drop (x*9)).length=(S.R.L.length-x)*9:=by rw [List.length_drop,HRL.out];omega
    have HDL:Hid (((gn S.R.L).drop (x*9)).length=(S.R.L.length-x)*9):=hdl;clear hMl2 hmL hdl h4 hb4 hf4w hc4 hown4 hf5 hg5 hsA hown;obtain ⟨A5,c5,rfl⟩:=im hown5;go_upto_if 65 with fail
    go_cut [9] (fun v9 wx=>∃A9 c9,v9=.slice A9 (d_ S.R.L i up).length c9/\wx.ownsRow W2.heap.size 108 9 (.slice A9 (d_ S.R.L i up).length c9) (d_ S.R.L i up).length ((d_ S.R.L i up).flatMap aw.vals)/\Fr w wx (fun _=>False)/\wx.heap[w.heap.size]?=some (Obj.cells #[.int .i64 S.R.L[i].ty,.int .i64 S.R.L[i].base,.int .i64 S.R.L[i].bits,.int .i64 S.R.L[i].rights,.int .i64 S.R.L[i].badge,.int .i64 S.R.L[i].mark] 46))
    case first=>
     have hws:w.heap.size<wr.heap.size:=by omega
     have hsD:∀wy,Fr W5 wy (fun k=>wr.heap.size<=k)->∀c,Src wy (.slice (if cap=x then some ⟨g,0,none⟩ else some ⟨g,x*9,none⟩) (S.R.L.length-x) c) (S.R.L.length-x) ((gn S.R.L).drop (x*9)):=by
      intro wy hfy c;have hownY:=hfy.owns hownL5 (fun k hk e=>by cases hk;have e':wr.heap.size<=g:=e;omega);right;by_cases hce:cap=x
      ·rw [if_pos hce];refine ⟨_,_,rfl,fun j u hu=>?_⟩
       rw [List.drop_eq_nil_of_le (by rw [HRL.out];omega)] at hu;cases hu
      ·rw [if_neg hce];exact ⟨_,_,rfl,aq5 hownY _⟩
     by_cases hup0:0<up
     ·have HT:Hid (d_ S.R.L i up=S.R.L.take i++(M++S.R.L.drop x)):=by show _=_;rw [HSP.out,if_pos hup0]
      have HLn:Hid ((d_ S.R.L i up).length=i+B.length+(S.R.L.length-x)):=by show _=_;rw [HT.out];simp [HmL.out];omega
      have HRw:Hid ((d_ S.R.L i up).flatMap aw.vals=(gn S.R.L).take (i*9)++M.flatMap aw.vals++(gn S.R.L).drop (x*9)):=by
       show _=_;rw [HT.out,List.flatMap_append,List.flatMap_append,qn _ 9 aw.vals_len,qo _ 9 aw.vals_len,List.append_assoc];rfl
      go_wp2_with (at_builtin;go_must (refine gi _ rfl _ _ 100 rfl wr.heap.size 108 i0 _ 9 72 Tryz.underlying100 hi0 hz0 hz1 hz2 rfl (by decide) _ i _ rfl hown5 _ B.length (M.flatMap aw.vals) rfl (Src.owns hM5) HML.out (fun u hu=>j7 _ aw.one _ u hu) ?_ ?_ (hs5) ?_))
      ·unfold maxLen;omega
      ·omega
      intro v6 W6 hown6 hg6;have hf6:Fr W5 W6 (fun k=>wr.heap.size<=k):=(Fr.refl _ _).grown hg6 (fun k hk=>.inl (hown5.lt k hk).1)
      have hs6:=Nat.le_trans hs5 hf6.size;obtain ⟨A6,c6,rfl⟩:=im hown6;have hc6:W6.cell? ⟨kb,0,none⟩=some (.slice (some ⟨g,0,none⟩) S.R.L.length cap):=hf6.cell hc5 (by show ¬wr.heap.size<=kb;omega);clear hg6;go_wp2_with (at_builtin;go_must (refine gi _ rfl _ _ 100 rfl wr.heap.size 108 i0 _ 9 72 Tryz.underlying100 hi0 hz0 hz1 hz2 rfl (by decide) _ (i+B.length) _ rfl hown6 _ (S.R.L.length-x) ((gn S.R.L).drop (x*9)) rfl (hsD W6 hf6 _) HDL.out (fun u hu=>j7 _ aw.one _ u (List.mem_of_mem_drop hu)) ?_ ?_ (hs6) ?_))
      ·unfold maxLen;omega
      ·omega
      all_goals
       intro v8 W8 hown8 hg8;have hf8:Fr w W8 (fun _=>False):=(hf5w.step hf6 (fun k hk=>.inr (by omega))).grown hg8 (fun k hk=>.inr (by have:=(hown6.lt k hk).1;omega))
       have hb8:=((Fr.refl W6 (fun k=>wr.heap.size<=k)).grown hg8 (fun k hk=>.inl (hown6.lt k hk).1)).same (hf6.same hb5 (by show ¬wr.heap.size<=w.heap.size;omega)) (by show ¬wr.heap.size<=w.heap.size;omega)
       obtain ⟨A8,c8,rfl⟩:=im hown8;clear hg8;go_wp2;go_meet;case rel=>exact ⟨A8,c8,by rw [HLn.out],by rw [HLn.out,HRw.out];exact jn (by simpa using hown8) hs4,hf8,hb8⟩
     ·have HT:Hid (d_ S.R.L i up=S.R.L.take i++(S.R.L.drop x++M)):=by show _=_;rw [HSP.out,if_neg hup0]
      have HLn:Hid ((d_ S.R.L i up).length=i+(S.R.L.length-x)+B.length):=by show _=_;rw [HT.out];simp [HmL.out];omega
      have HRw:Hid ((d_ S.R.L i up).flatMap aw.vals=(gn S.R.L).take (i*9)++(gn S.R.L).drop (x*9)++M.flatMap aw.vals):=by
       show _=_;rw [HT.out,List.flatMap_append,List.flatMap_append,qn _ 9 aw.vals_len,qo _ 9 aw.vals_len,List.append_assoc];rfl
      have hsM:∀wy,Fr W5 wy (fun k=>wr.heap.size<=k)->Src wy (.slice A7 B.length c7) B.length (M.flatMap aw.vals):=fun wy hfy=>
       (Src.owns hM5).frame hfy (fun k hk e=>by have:=hne7 k hk;omega)
      go_wp2_with (at_builtin;go_must (refine gi _ rfl _ _ 100 rfl wr.heap.size 108 i0 _ 9 72 Tryz.underlying100 hi0 hz0 hz1 hz2 rfl (by decide) _ i _ rfl hown5 _ (S.R.L.length-x) ((gn S.R.L).drop (x*9)) rfl (hsD W5 (Fr.refl _ _) _) HDL.out (fun u hu=>j7 _ aw.one _ u (List.mem_of_mem_drop hu)) ?_ ?_ hs5 ?_))
      ·unfold maxLen;omega
      ·omega
      all_goals
       intro v6 W6 hown6 hg6;have hf6:Fr W5 W6 (fun k=>wr.heap.size<=k):=(Fr.refl _ _).grown hg6 (fun k hk=>.inl (hown5.lt k hk).1)
       have hs6:=Nat.le_trans hs5 hf6.size;obtain ⟨A6,c6,rfl⟩:=im hown6;clear hg6;go_wp2_with (at_builtin;go_must (refine gi _ rfl _ _ 100 rfl wr.heap.size 108 i0 _ 9 72 Tryz.underlying100 hi0 hz0 hz1 hz2 rfl (by decide) _ (i+(S.R.L.length-x)) _ rfl hown6 _ B.length (M.flatMap aw.vals) rfl (hsM W6 hf6) HML.out (fun u hu=>j7 _ aw.one _ u hu) ?_ ?_ hs6 ?_))
       ·unfold maxLen;omega
       ·omega
       intro v8 W8 hown8 hg8;have hf8:Fr w W8 (fun _=>False):=(hf5w.step hf6 (fun k hk=>.inr (by omega))).grown hg8 (fun k hk=>.inr (by have:=(hown6.lt k hk).1;omega))
       have hb8:=((Fr.refl W6 (fun k=>wr.heap.size<=k)).grown hg8 (fun k hk=>.inl (hown6.lt k hk).1)).same (hf6.same hb5 (by show ¬wr.heap.size<=w.heap.size;omega)) (by show ¬wr.heap.size<=w.heap.size;omega)
       obtain ⟨A8,c8,rfl⟩:=im hown8;clear hg8;go_wp2;go_meet;case rel=>exact ⟨A8,c8,by rw [HLn.out],by rw [HLn.out,HRw.out];exact jn (by simpa using hown8) hs4,hf8,hb8⟩
    case rest=>
     obtain ⟨A9,c9,rfl,hown9,hf9,hb9⟩:=hcut;have h9:=h.frame hf9 (fun _ _=>id);have hnew9:∀k,(Value.slice A9 (d_ S.R.L i up).length c9).ownBlock=some k->w.heap.size+1<=k:=fun k hk=>by have:=(hown9.lt k hk).1;omega
     have hc9:=h9.ref.cl;have hz9:=h9.ref.fz 0;rw [hlv] at hc9;have hr10:aj (wc.setCell ⟨kb,0,none⟩ (.slice A9 (d_ S.R.L i up).length c9)) kb {S.R with L:=d_ S.R.L i up} {V with lv:=.slice A9 (d_ S.R.L i up).length c9}:=by
      refine h9.ref.setL rfl (jn hown9 (Nat.zero_le _)) (fun k hk=>?_);have:=hnew9 k hk;refine ⟨fun e=>?_,fun e=>?_,fun e=>by omega⟩
      ·have:=h.ref.fpLt (k:=k) (.inr (.inr (.inl e)));omega
      ·have:=h.ref.fpLt (k:=k) (.inr (.inr (.inr e)));omega
     have hO:fh w kb V ⟨{S.R with L:=d_ S.R.L i up},S.D,S.ws,S.q⟩ {V with lv:=.slice A9 (d_ S.R.L i up).length c9} (wc.setCell ⟨kb,0,none⟩ (.slice A9 (d_ S.R.L i up).length c9)):=by
      refine ⟨⟨hr10,h.ws,(Fr.s1 wc kb 0 _).owns h9.d (fun k hk e=>h.dk k hk (.inl e)),?_,(Fr.s1 wc kb 0 _).owns h9.q (fun k hk e=>(h.qk k hk).1 (.inl e)),?_⟩,(hf9.mono (fun _=>False.elim)).setCell (.inl (.inl (.inl rfl))) _ _,?_⟩
      ·rintro k hk (h5 | h5 | h5 | h5)
       ·exact h.dk k hk (.inl h5)
       ·have:=hnew9 k h5;have:=h.fqLt (k:=k) (.inr (.inl hk));omega
       ·exact h.dk k hk (.inr (.inr (.inl h5)))
       ·exact h.dk k hk (.inr (.inr (.inr h5)))
      ·intro k hk;refine ⟨?_,(h.qk k hk).2⟩;rintro (h5 | h5 | h5 | h5)
       ·exact (h.qk k hk).1 (.inl h5)
       ·have:=hnew9 k h5;have:=h.fqLt (k:=k) (.inr (.inr hk));omega
       ·exact (h.qk k hk).1 (.inr (.inr (.inl h5)))
       ·exact (h.qk k hk).1 (.inr (.inr (.inr h5)))
      ·rintro k ((h5 | h5 | h5 | h5) | h5)
       ·exact .inl (.inl (.inl h5))
       ·exact .inr (by have:=hnew9 k h5;omega)
       ·exact .inl (.inl (.inr (.inr (.inl h5))))
       ·exact .inl (.inl (.inr (.inr (.inr h5))))
       ·exact .inl (.inr h5)
     have hb10:=(Fr.s1 wc kb 0 (.slice A9 (d_ S.R.L i up).length c9)).same hb9 (by omega);have htk:ik S i S.R.L[i]=if (d_ S.R.L i up).any (qd S.R.L[i].ty S.R.L[i].base) then ⟨{S.R with L:=d_ S.R.L i up},S.D,S.ws,S.q⟩ else jd ⟨{S.R with L:=d_ S.R.L i up},S.D,S.ws,S.q⟩ S.R.L[i].ty S.R.L[i].base S.R.L[i].bits:=by
      unfold ik;rw [hU]
     have HTK:Hid (ik S i S.R.L[i]=if (d_ S.R.L i up).any (qd S.R.L[i].ty S.R.L[i].base) then ⟨{S.R with L:=d_ S.R.L i up},S.D,S.ws,S.q⟩ else jd ⟨{S.R with L:=d_ S.R.L i up},S.D,S.ws,S.q⟩ S.R.L[i].ty S.R.L[i].base S.R.L[i].bits):=htk;have hLn:(d_ S.R.L i up).length+1=S.R.L.length:=by have:=as0 hi;rw [hU] at this;exact this
     clear htk h9 hown9 hf9 hnew9 hr10 hb9 HSP;go_upto_region 17 with fail
     generalize hW10:(wc.setCell ⟨kb,0,none⟩ (.slice A9 (d_ S.R.L i up).length c9))=W10 at hO hb10 ⊢;clear hW10;generalize d_ S.R.L i up=L' at hO HTK hLn ⊢;clear hi0 hz0 hz1 hz2 hlv hcap hmax hU2 hBle hx1 hx2 HRL HLA HML HmL HDL hs5 hne7 hf5w hb5 hc5 hownL5 hM5 h5 hown5 hU hup;have hcL:=hO.rd.ref.cl;have hLies:=hO.rd.ref.ll;have hk10:kb<W10.heap.size:=World.block_lt_of_cell? _ _ hcL;have hs10:w.heap.size<W10.heap.size:=(Array.getElem?_eq_some_iff.1 hb10).1;go_wp2;go_loopw [10] (fun j w'=>∃k q:Nat,j=.int .i64 k/\k<=L'.length/\w'=W10.drewN q/\∀j (hj:j<L'.length),j<k->qd S.R.L[i].ty S.R.L[i].base L'[j]=false) (fun j _=>L'.length-(intOf j).toNat)
     case atStart=>exact ⟨0,0,rfl,by omega,rfl,fun _ _ h=>by omega⟩
     case round=>
      obtain ⟨k,q,rfl,hk,rfl,hno⟩:=hrel;have hcr:W10.cell? ⟨kb,0,none⟩=some (.slice A9 L'.length c9):=hcL;have k0:W10.cell? ⟨w.heap.size,0,none⟩=_:=aa (o:=0) hb10 rfl;have k1:W10.cell? ⟨w.heap.size,1,none⟩=_:=aa (o:=1) hb10 rfl;by_cases hlt:k<L'.length
      ·obtain ⟨A',cap',hv',hA'⟩:=hLies;cases hv'
       obtain ⟨ga,rfl,hcells⟩:=hA' (by exact Nat.lt_of_le_of_lt (Nat.zero_le _) hlt);obtain ⟨_,_,f2,f3,_,_,_,_,_⟩:=aa0 hcells k hlt;have hglt':ga<W10.heap.size:=World.block_lt_of_cell? _ _ f2;by_cases hty:L'[k].ty=S.R.L[i].ty
       ·by_cases hba:L'[k].base=S.R.L[i].base
        ·have t1:(L'[k].ty==S.R.L[i].ty)=true:=by simpa using hty
         have t2:(L'[k].base==S.R.L[i].base)=true:=by simpa using hba
         have HA:Hid (L'.any (qd S.R.L[i].ty S.R.L[i].base)=true):=by
          show _=_;rw [List.any_eq_true];exact ⟨L'[k],List.getElem_mem hlt,by simp [qd,hty,hba]⟩
         clear hty hba hno;go_wp2;go_quiet (fail)
         go_wp2;(try simp only [Exit.inBlock,Exit.then]);refine bodyPost_ret (results_none rfl _ _ _) rfl ?_
         refine ⟨rfl,{V with lv:=.slice (some ⟨ga,0,none⟩) L'.length c9},?_,rfl,rfl⟩;rw [HTK.out,if_pos HA.out];exact ⟨hO.rd.frame (((Fr.refl _ (fun _=>False)).drewN _).drewN _) (fun _ _=>id),(hO.fr.drewN _).drewN _,hO.new⟩
        ·have t1:(L'[k].ty==S.R.L[i].ty)=true:=by simpa using hty
         have t2:(L'[k].base==S.R.L[i].base)=false:=by simpa using hba
         have hN:=oh (p:=qd S.R.L[i].ty S.R.L[i].base) hlt hno (by simp [qd,hba]);clear hty hba hno;go_wp2;go_quiet (fail)
         go_wp2;go_roundw;case rel=>exact ⟨k+1,_,by go_num,by omega,rfl,hN⟩
         case measure=>simp [intOf];omega
       ·have t1:(L'[k].ty==S.R.L[i].ty)=false:=by simpa using hty
        have hN:=oh (p:=qd S.R.L[i].ty S.R.L[i].base) hlt hno (by simp [qd,hty]);clear hty hno;go_wp2;go_quiet (fail)
        go_wp2;go_roundw;case rel=>exact ⟨k+1,_,by go_num,by omega,rfl,hN⟩
        case measure=>simp [intOf];omega
      ·have HA:Hid (L'.any (qd S.R.L[i].ty S.R.L[i].base)=false):=by
        show _=_;rw [<- Bool.not_eq_true,List.any_eq_true];rintro ⟨y,hy,h2⟩;obtain ⟨j,hj,rfl⟩:=List.getElem_of_mem hy;rw [hno j hj (by omega)] at h2;cases h2
       have k2:W10.cell? ⟨w.heap.size,2,none⟩=_:=aa (o:=2) hb10 rfl;have k3:W10.cell? ⟨w.heap.size,3,none⟩=_:=aa (o:=3) hb10 rfl;have k4:W10.cell? ⟨w.heap.size,4,none⟩=_:=aa (o:=4) hb10 rfl;have k5:W10.cell? ⟨w.heap.size,5,none⟩=_:=aa (o:=5) hb10 rfl;clear hno;go_wp2_with fail
       refine (bu0 ⟨{S.R with L:=L'},S.D,S.ws,S.q⟩ _ kb S.R.L[i].ty S.R.L[i].base S.R.L[i].bits S.R.L[i].rights S.R.L[i].badge S.R.L[i].mark _ (hO.rd.frame ((Fr.refl _ (fun _=>False)).drewN q) (fun _ _=>id)) hnN hnT hnD hq hbits).mono ?_;rintro x9 w9 ⟨rfl,V9,hO9,hbv,hsv⟩;go_wp2;go_end0;refine ⟨rfl,V9,?_,hbv,hsv⟩;rw [HTK.out,HA.out];exact fh.trans ⟨hO.rd.frame ((Fr.refl _ (fun _=>False)).drewN q) (fun _ _=>id),hO.fr.drewN q,hO.new⟩ hO9
def j2 (S:RS):Prop:=∃S',Ag S S'
theorem j2.bounds {S:RS}(h:j2 S):S.R.L.length<=900000/\S.R.N.length<=900000/\S.R.T.length<=900000/\S.D.length<=900000/\(∀j (hj:j<S.R.L.length),0<=S.R.L[j].up/\S.R.L[j].up<=900000)/\
 (∀d∈S.D,0<=d.1/\d.1<1024/\0<=d.2/\d.2<=16)/\(∀i (hi:i<S.R.L.length),S.R.L[i].ty=2->2<=S.R.L[i].bits/\S.R.L[i].bits<=20)/\QIn S:=by
 obtain ⟨S',hA⟩:=h;obtain ⟨b1,b2,b3,_,b5⟩:=hA.core.refOk;refine ⟨b1,b2,b3,by have:=hA.core.lenD;omega,b5,fun d hd=>?_,fun i hi hty=>?_,by have:=hA.q.few hA.core;omega,fun x hx=>?_⟩
 ·obtain ⟨c1,c2,c3,c4,_⟩:=hA.core.dm d hd;exact ⟨c1,c2,c3,c4⟩
 ·obtain ⟨c,hc,ht⟩:=hA.core.rel.cap _ (List.getElem_mem hi);have h2:=qp ht;obtain ⟨_,hbi,_⟩:=pa ht;rw [hty] at h2;cases c with
  | node b n r=>
   obtain ⟨n3,n6,_⟩:=hA.core.hno _ _ _ _ hc;simp only [KCap.bits] at hbi;omega
  | _=>simp only [KCap.ty] at h2;omega
 ·obtain ⟨t,ht,_⟩:=hA.q.th x hx;rw [hA.core.rel.thr] at ht;cases hf:S.R.T.find? (af x.thread) with
  | none=>rw [hf] at ht;cases ht
  | some y=>exact ⟨y,List.mem_of_find?_eq_some hf,by simpa [af] using List.find?_some hf⟩
theorem j2.step {S:RS}(h:j2 S):j2 (cg S):=by obtain ⟨S',hA⟩:=h;exact ⟨_,hA.step⟩
theorem j2.take {S:RS}(h:j2 S){p:Nat}(hp:p<S.R.L.length):j2 (ik S p S.R.L[p]):=by obtain ⟨S',hA⟩:=h;exact ⟨_,hA.take hp⟩
structure RB (w:World)(kb:Nat)(S:RS)(V:ax)(bs:List Bool):Prop where
 rd:RD w kb S V
 b:eo w V.bv bs
 s:V.sv=.bool false
 out:∀g,V.bv.ownBlock=some g->0<bs.length->¬V.fq kb g/\g<w.heap.size
structure bi0 (w:World)(kb:Nat)(V:ax)(S':RS)(bs:List Bool)(go:Bool)(w':World):Prop where
 ex:∃V',fh w kb V S' V' w'/\(go=true->RB w' kb S' V' bs)
theorem eo.frame {w w':World}{X:Nat->Prop}{v:Value}{l:List Bool}(h:eo w v l)(hf:Fr w w' X)(hn:∀g,v.ownBlock=some g->0<l.length->¬X g):eo w' v l:=by
 obtain ⟨A,cap,rfl,h1,h2⟩:=h;refine ⟨A,cap,rfl,h1,fun h0=>?_⟩
 obtain ⟨g,o,rfl,h3⟩:=h2 h0;exact ⟨g,o,rfl,fun i hi=>hf.cell (h3 i hi) (hn g rfl h0)⟩
theorem RB.after {w w':World}{kb:Nat}{S S':RS}{V V':ax}{bs:List Bool}(h:RB w kb S V bs)(hO:fh w kb V S' V' w')(hb:V'.bv=V.bv)(hs:V'.sv=V.sv):RB w' kb S' V' bs:=by
 refine ⟨hO.rd,by rw [hb];exact h.b.frame hO.fr (fun g hg h0=>(h.out g hg h0).1),by rw [hs];exact h.s,fun g hg h0=>?_⟩
 rw [hb] at hg;obtain ⟨h1,h2⟩:=h.out g hg h0;refine ⟨fun e=>?_,Nat.lt_of_lt_of_le h2 hO.fr.size⟩
 rcases hO.new g e with h3 | h3
 ·exact h1 h3
 ·omega
theorem zu (S:RS)(V:ax)(kb:Nat)(bs:List Bool)(w:World)(h:RB w kb S V bs):
 Calls Tryz.prog 103 #[.pointer (some ⟨kb,0,none⟩)] w fun e' w'=>e'=.returned (.bool (!(ar bs).1))/\bi0 w kb V S (ar bs).2 (!(ar bs).1) w':=by
 refine (a42 S V kb bs w h.rd ⟨h.b,h.s,h.out⟩).mono ?_;rintro e w' ⟨rfl,bv,hb,hg,hrd,hf⟩;refine ⟨rfl,⟨{V with bv:=bv,sv:=.bool (ar bs).1},⟨hrd,hf.mono (fun k hk=>.inl (.inl hk)),fun k hk=>.inl hk⟩,fun hgo=>⟨hrd,hb,?_,?_⟩⟩⟩
 ·simp only [Bool.not_eq_true'] at hgo;show Value.bool _=_;rw [hgo]
 ·intro g hg' h0;have hlen:0<bs.length:=by cases bs with
   | nil=>simp [ar] at h0
   | cons b r=>simp
  obtain ⟨h1,h2⟩:=h.out g (hg g hg') hlen;exact ⟨h1,Nat.lt_of_lt_of_le h2 hf.size⟩
end Go.Proofs.YtdpjgflemddekaaGreatDoor
