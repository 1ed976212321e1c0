/- The keeping statements: clean. -/
import Derived.Test.YtdpjgflemddekaaDoorMKeepC
import Derived.Test.YtdpjgflemddekaaDoorMKeepP
set_option maxRecDepth 100000
set_option maxHeartbeats 40000000
namespace Go.Proofs.YtdpjgflemddekaaDoor
open Go.RowKit
structure bf3 (ws:Nat->Int)(B A:List ee):Prop where
 rng:∀i (hi:i<A.length),0<=A[i].base/\0<=A[i].bits/\A[i].bits<=10/\A[i].base+pw A[i].bits.toNat<=1024/\0<=A[i].mark/\A[i].mark<=pw A[i].bits.toNat
 un:∀i (hi:i<A.length),A[i].ty=1->∀n:Int,A[i].base+A[i].mark<=n->n<A[i].base+pw A[i].bits.toNat->ws n.toNat=0
 fr:∀i (hi:i<A.length),A[i].ty=5->bq B 5 A[i].base B.length=false->∀n:Int,A[i].base<=n->n<A[i].base+pw A[i].bits.toNat->ws n.toNat=0
theorem bf1 {w0 w:World}{kb:Nat}{R:RS}(hK:KR w0 w kb R)(B A:List ee)(vb va:Value)(hn:A.length<=1000000)(hm:B.length<=1000000)(hrb:jx w ee.vals 10 vb B)(hra:jx w ee.vals 10 va A)(hC:bf3 R.ws B A):
 Calls Tryd.prog 32 #[.pointer (some ⟨kb,0,none⟩),vb,va] w fun e w'=>e=.returned (.bool true)/\Fr w w' (fun _=>False):=by
 have hwd:∀W (n:Int),Fr w W (fun _=>False)->0<=n/\n<1024->Calls Tryd.prog 24 #[.pointer (some ⟨kb,0,none⟩),.int .i64 n] W fun e w'=>e=.returned (.tuple #[.int .i64 (R.ws n.toNat),.int .i64 0])/\w'=W:=fun W n hf hn=>(hK.next hf).word n hn
 clear hK;obtain ⟨PB,capB,rfl,hB⟩:=hrb;obtain ⟨PA,capA,rfl,hA⟩:=hra;go_enter Tryd.func32,Tryd.ntmps32
 go_wp2;go_loopw [7] (fun iv w'=>∃i:Nat,i<=A.length/\iv=.int .i64 i/\Fr w w' (fun _=>False)) (fun iv _=>A.length-(intOf iv).toNat)
 case atStart=>exact ⟨0,Nat.zero_le _,rfl,Fr.refl _ _⟩
 case round=>
  obtain ⟨i,hi,rfl,hf⟩:=hrel;by_cases hlt:i<A.length
  ·obtain ⟨g,rfl,hc⟩:=hA (by omega);have he:=mr hc i hlt;obtain ⟨ra0,ra1,ra2,ra3,ra4,ra5⟩:=hC.rng i hlt;have hun:=hC.un i hlt;have hfr:=hC.fr i hlt;clear hA hC hc;have x2:=hf.cell he.c2 id;have x3:=hf.cell he.c3 id;have x4:=hf.cell he.c4 id;have x5:=hf.cell he.c5 id;have x6:=hf.cell he.c6 id;have x7:=hf.cell he.c7 id;clear he;generalize A[i].ty=at_ at *
   generalize A[i].base=ab at *
   generalize A[i].bits=an at *
   generalize A[i].rights=ar at *
   generalize A[i].badge=ag at *
   generalize A[i].mark=am at *
   have hgW:=World.block_lt_of_cell? _ _ x2;simp only at hgW;have hp0:=gy an.toNat;have ks:=fun W=>ac9 at_ ab an ar ag am W ra1 ra2
   obtain ⟨q,hq⟩:∃q,Hid (pw an.toNat=q):=⟨_,rfl⟩;rw [hq.out] at ra3 ra5 hun hfr hp0;simp only [hq.out] at ks;go_upto_region 5 with fail
   have hf2:=(Fr.refl wr (fun _=>False)).alloc (.cells #[.int .i64 at_,.int .i64 ab,.int .i64 an,.int .i64 ar,.int .i64 ag,.int .i64 am] 51);have hba:=heap_alloc_new wr (.cells #[.int .i64 at_,.int .i64 ab,.int .i64 an,.int .i64 ar,.int .i64 ag,.int .i64 am] 51);have hF:=hf.step hf2 (fun _=>False.elim);clear x2 x3 x4 x5 x6 x7;generalize wr.alloc _=W2 at hf2 hba hF ⊢;obtain ⟨a0,a1,a2,a3,a4,a5⟩:=bj hba;generalize wr.heap.size=Ba at hba a0 a1 a2 a3 a4 a5 ⊢;have HW1:Hid (IntKind.i64.wrap (ab+q)=ab+q):=by show _=_;exact l_ _ (by omega) (by omega)
   go_region_held3 (fun w'=>w'.cell? ⟨Ba,0,none⟩=some (.int .i64 at_)/\w'.cell? ⟨Ba,1,none⟩=some (.int .i64 ab)/\w'.cell? ⟨Ba,2,none⟩=some (.int .i64 an)/\w'.cell? ⟨Ba,3,none⟩=some (.int .i64 ar)/\w'.cell? ⟨Ba,4,none⟩=some (.int .i64 ag)/\w'.cell? ⟨Ba,5,none⟩=some (.int .i64 am)) (go_keep)
    ((go_at_call 55;refine (ks _).mono ?_;rintro e W3 ⟨rfl,hf3⟩;have hF3:=hF.drew.step hf3 (fun _=>False.elim);have hb3:=hf3.same hba id;obtain ⟨b0,b1,b2,b3,b4,b5⟩:=bj hb3))
   rw [HW1.out];clear a0 a1 a2 a3 a4 a5 hba;by_cases hA1:at_=1
   ·subst hA1;have hz:=hun rfl;clear hun hfr;have hFa:0<=ab+am/\ab+am<=ab+q:=by omega
    go_wp2;go_loopw [10,11] (fun ov jv w'=>∃j m:Nat,j<=B.length/\ov=.bool (bq B 5 ab j)/\jv=.int .i64 j/\w'=W3.drewN m) (fun _ jv _=>B.length-(intOf jv).toNat)
    case atStart=>exact ⟨0,0,Nat.zero_le _,rfl,rfl,rfl⟩
    case round=>
     obtain ⟨j,mm,hj,rfl,rfl,rfl⟩:=hrel;by_cases hlt2:j<B.length
     ·obtain ⟨gb,rfl,hcb⟩:=hB (by omega);have hbr:=mr hcb j hlt2;have u2:=ah (hF3.cell hbr.c2 id) mm;have u3:=ah (hF3.cell hbr.c3 id) mm;have v1:=ah b1 mm;have hfin:∀x,∃m',(W3.drewN mm).drewN x=W3.drewN m':=fun x=>⟨mm+x,o9 W3 mm x⟩
      have hT:Hid (bq B 5 ab (j+1)=(bq B 5 ab j || (B[j].ty==5 && B[j].base==ab))):=by show _=_;simp [bq,hlt2,ik]
      clear hB hcb hbr b0 b1 b2 b3 b4 b5;generalize W3.drewN mm=W5 at u2 u3 v1 hfin ⊢;generalize bq B 5 ab j=t0 at hT ⊢;generalize B[j].ty=bt at *
      generalize B[j].base=bb at *
      cases t0 with
      | true=>
       have hT2:bq B 5 ab (j+1)=true:=by rw [hT.out];rfl
       clear hT;go_wp2_with fail
       go_quiet (fail)
       obtain ⟨m',hm'⟩:=hfin nq;go_wp2;go_roundw;all_goals (first | exact ⟨j+1,m',by omega,by rw [hT2],by go_num,by first | rfl | exact hm'⟩ | (simp [intOf];omega) | ((repeat (refine ⟨_,?_⟩));refine ⟨?_,rfl⟩;exact ⟨j+1,m',by omega,by rw [hT2],by go_num,by first | rfl | exact hm'⟩) | skip)
      | false=>
       by_cases h1:bt=5
       ·by_cases h2:bb=ab
        ·have hT2:bq B 5 ab (j+1)=true:=by rw [hT.out,h1,h2];simp
         clear hT;subst h1 h2;go_wp2_with fail
         go_quiet (fail)
         obtain ⟨m',hm'⟩:=hfin nq;go_wp2;go_roundw;all_goals (first | exact ⟨j+1,m',by omega,by rw [hT2],by go_num,by first | rfl | exact hm'⟩ | (simp [intOf];omega) | ((repeat (refine ⟨_,?_⟩));refine ⟨?_,rfl⟩;exact ⟨j+1,m',by omega,by rw [hT2],by go_num,by first | rfl | exact hm'⟩) | skip)
        ·have hT2:bq B 5 ab (j+1)=false:=by rw [hT.out];simp [h2]
         clear hT;subst h1;go_wp2_with fail
         go_quiet (fail)
         obtain ⟨m',hm'⟩:=hfin nq;go_wp2;go_roundw;all_goals (first | exact ⟨j+1,m',by omega,by rw [hT2]<;>simp [h2],by go_num,by first | rfl | exact hm'⟩ | (simp [intOf];omega) | ((repeat (refine ⟨_,?_⟩));refine ⟨?_,rfl⟩;exact ⟨j+1,m',by omega,by rw [hT2]<;>simp [h2],by go_num,by first | rfl | exact hm'⟩) | skip)
       ·have hT2:bq B 5 ab (j+1)=false:=by rw [hT.out];simp [h1]
        clear hT;go_wp2_with fail
        go_quiet (fail)
        obtain ⟨m',hm'⟩:=hfin nq;go_wp2;go_roundw;all_goals (first | exact ⟨j+1,m',by omega,by rw [hT2],by go_num,by first | rfl | exact hm'⟩ | (simp [intOf];omega) | ((repeat (refine ⟨_,?_⟩));refine ⟨?_,rfl⟩;exact ⟨j+1,m',by omega,by rw [hT2],by go_num,by first | rfl | exact hm'⟩) | skip)
     ·have hk:j=B.length:=by omega
      subst hk;have hF5:=hF3.drewN mm;have hb5:=hb3;replace hb5:(W3.drewN mm).heap[Ba]?=some (.cells #[.int .i64 1,.int .i64 ab,.int .i64 an,.int .i64 ar,.int .i64 ag,.int .i64 am] 51 (0,0)):=hb5;generalize bq B 5 ab B.length=old at *
      clear b0 b1 b2 b3 b4 b5 hb3 hB;generalize W3.drewN mm=W5 at hF5 hb5 ⊢;obtain ⟨b0,b1,b2,b3,b4,b5⟩:=bj hb5;go_wp2;-- the words
      go_loopw [12] (fun nv w'=>∃n:Int,nv=.int .i64 n/\(ab+am)<=n/\n<=ab+q/\w'.heap[Ba]?=some (.cells #[.int .i64 1,.int .i64 ab,.int .i64 an,.int .i64 ar,.int .i64 ag,.int .i64 am] 51 (0,0))/\Fr w w' (fun _=>False)) (fun nv _=>(ab+q-intOf nv).toNat)
      case atStart=>exact ⟨(ab+am),rfl,Int.le_refl _,by omega,hb5,hF5⟩
      case round=>
       clear b0 b1 b2 b3 b4 b5 hb5 hF5;obtain ⟨n,rfl,hn1,hn2,hbn,hfn⟩:=hrel;obtain ⟨b0,b1,b2,b3,b4,b5⟩:=bj hbn;have hq1:=hq.out;clear hq1;have hwz:=hz n hn1;have hw:=fun W hW=>hwd W n hW
       by_cases hlt3:n<ab+q
       ·have hd1:decide (n<IntKind.i64.wrap (ab+q))=true:=by rw [HW1.out];simpa using hlt3
        have hzz:=hwz hlt3;have hrng:0<=n/\n<1024:=by omega
        have hstep:n+1<=ab+q:=by omega
        have hstep0:(ab+am)<=n+1:=by omega
        go_wp2_with fail
        go_region_held3 (fun w'=>w'.cell? ⟨Ba,0,none⟩=some (.int .i64 1)/\w'.cell? ⟨Ba,1,none⟩=some (.int .i64 ab)/\w'.cell? ⟨Ba,2,none⟩=some (.int .i64 an)/\w'.cell? ⟨Ba,3,none⟩=some (.int .i64 ar)/\w'.cell? ⟨Ba,4,none⟩=some (.int .i64 ag)/\w'.cell? ⟨Ba,5,none⟩=some (.int .i64 am)) (go_keep)
         ((go_at_call 55;refine (ks _).mono ?_;rintro e W6 ⟨rfl,hf6⟩;have hF6:=hfn.drew.step hf6 (fun _=>False.elim);have hb6:=hf6.same hbn id;obtain ⟨c0,c1,c2,c3,c4,c5⟩:=bj hb6))
        clear b0 b1 b2 b3 b4 b5 c0 c1 c2 c3 c4 c5;have hwn:=hw _ hF6 hrng;rw [hzz] at hwn;go_wp2_with (go_at_call 24;refine hwn.mono ?_;rintro e w1 ⟨rfl,he1⟩;obtain rfl:=he1.symm)
        go_roundw;case rel=>exact ⟨n+1,by go_num,hstep0,hstep,hb6,hF6⟩
        case measure=>simp [intOf];omega
       ·have hd1:decide (n<IntKind.i64.wrap (ab+q))=false:=by rw [HW1.out];simpa using hlt3
        go_wp2_with fail
        go_region_held3 (fun w'=>w'.cell? ⟨Ba,0,none⟩=some (.int .i64 1)/\w'.cell? ⟨Ba,1,none⟩=some (.int .i64 ab)/\w'.cell? ⟨Ba,2,none⟩=some (.int .i64 an)/\w'.cell? ⟨Ba,3,none⟩=some (.int .i64 ar)/\w'.cell? ⟨Ba,4,none⟩=some (.int .i64 ag)/\w'.cell? ⟨Ba,5,none⟩=some (.int .i64 am)) (go_keep)
         ((go_at_call 55;refine (ks _).mono ?_;rintro e W6 ⟨rfl,hf6⟩;have hF6:=hfn.drew.step hf6 (fun _=>False.elim);have hb6:=hf6.same hbn id;obtain ⟨c0,c1,c2,c3,c4,c5⟩:=bj hb6))
        go_wp2;go_roundw;case rel=>exact ⟨i+1,by omega,by go_num,hF6⟩
        case measure=>simp [intOf];omega
   ·by_cases hA5:at_=5
    ·subst hA5;have hz5:=hfr rfl;clear hun hfr;go_wp2;go_loopw [10,11] (fun ov jv w'=>∃j m:Nat,j<=B.length/\ov=.bool (bq B 5 ab j)/\jv=.int .i64 j/\w'=W3.drewN m) (fun _ jv _=>B.length-(intOf jv).toNat)
     case atStart=>exact ⟨0,0,Nat.zero_le _,rfl,rfl,rfl⟩
     case round=>
      obtain ⟨j,mm,hj,rfl,rfl,rfl⟩:=hrel;by_cases hlt2:j<B.length
      ·obtain ⟨gb,rfl,hcb⟩:=hB (by omega);have hbr:=mr hcb j hlt2;have u2:=ah (hF3.cell hbr.c2 id) mm;have u3:=ah (hF3.cell hbr.c3 id) mm;have v1:=ah b1 mm;have hfin:∀x,∃m',(W3.drewN mm).drewN x=W3.drewN m':=fun x=>⟨mm+x,o9 W3 mm x⟩
       have hT:Hid (bq B 5 ab (j+1)=(bq B 5 ab j || (B[j].ty==5 && B[j].base==ab))):=by show _=_;simp [bq,hlt2,ik]
       clear hB hcb hbr b0 b1 b2 b3 b4 b5;generalize W3.drewN mm=W5 at u2 u3 v1 hfin ⊢;generalize bq B 5 ab j=t0 at hT ⊢;generalize B[j].ty=bt at *
       generalize B[j].base=bb at *
       cases t0 with
       | true=>
        have hT2:bq B 5 ab (j+1)=true:=by rw [hT.out];rfl
        clear hT;go_wp2_with fail
        go_quiet (fail)
        obtain ⟨m',hm'⟩:=hfin nq;go_wp2;go_roundw;all_goals (first | exact ⟨j+1,m',by omega,by rw [hT2],by go_num,by first | rfl | exact hm'⟩ | (simp [intOf];omega) | ((repeat (refine ⟨_,?_⟩));refine ⟨?_,rfl⟩;exact ⟨j+1,m',by omega,by rw [hT2],by go_num,by first | rfl | exact hm'⟩) | skip)
       | false=>
        by_cases h1:bt=5
        ·by_cases h2:bb=ab
         ·have hT2:bq B 5 ab (j+1)=true:=by rw [hT.out,h1,h2];simp
          clear hT;subst h1 h2;go_wp2_with fail
          go_quiet (fail)
          obtain ⟨m',hm'⟩:=hfin nq;go_wp2;go_roundw;all_goals (first | exact ⟨j+1,m',by omega,by rw [hT2],by go_num,by first | rfl | exact hm'⟩ | (simp [intOf];omega) | ((repeat (refine ⟨_,?_⟩));refine ⟨?_,rfl⟩;exact ⟨j+1,m',by omega,by rw [hT2],by go_num,by first | rfl | exact hm'⟩) | skip)
         ·have hT2:bq B 5 ab (j+1)=false:=by rw [hT.out];simp [h2]
          clear hT;subst h1;go_wp2_with fail
          go_quiet (fail)
          obtain ⟨m',hm'⟩:=hfin nq;go_wp2;go_roundw;all_goals (first | exact ⟨j+1,m',by omega,by rw [hT2]<;>simp [h2],by go_num,by first | rfl | exact hm'⟩ | (simp [intOf];omega) | ((repeat (refine ⟨_,?_⟩));refine ⟨?_,rfl⟩;exact ⟨j+1,m',by omega,by rw [hT2]<;>simp [h2],by go_num,by first | rfl | exact hm'⟩) | skip)
        ·have hT2:bq B 5 ab (j+1)=false:=by rw [hT.out];simp [h1]
         clear hT;go_wp2_with fail
         go_quiet (fail)
         obtain ⟨m',hm'⟩:=hfin nq;go_wp2;go_roundw;all_goals (first | exact ⟨j+1,m',by omega,by rw [hT2],by go_num,by first | rfl | exact hm'⟩ | (simp [intOf];omega) | ((repeat (refine ⟨_,?_⟩));refine ⟨?_,rfl⟩;exact ⟨j+1,m',by omega,by rw [hT2],by go_num,by first | rfl | exact hm'⟩) | skip)
      ·have hk:j=B.length:=by omega
       subst hk;have hF5:=hF3.drewN mm;have hb5:=hb3;replace hb5:(W3.drewN mm).heap[Ba]?=some (.cells #[.int .i64 5,.int .i64 ab,.int .i64 an,.int .i64 ar,.int .i64 ag,.int .i64 am] 51 (0,0)):=hb5;generalize bq B 5 ab B.length=old at *
       clear b0 b1 b2 b3 b4 b5 hb3 hB;generalize W3.drewN mm=W5 at hF5 hb5 ⊢;obtain ⟨b0,b1,b2,b3,b4,b5⟩:=bj hb5;cases old with
       | true=>
        have hz:∀n:Int,ab+q<=n->n<ab+q->R.ws n.toNat=0:=fun n g1 g2=>by omega
        clear hz5;go_wp2;-- the words
        go_loopw [12] (fun nv w'=>∃n:Int,nv=.int .i64 n/\(ab+q)<=n/\n<=ab+q/\w'.heap[Ba]?=some (.cells #[.int .i64 5,.int .i64 ab,.int .i64 an,.int .i64 ar,.int .i64 ag,.int .i64 am] 51 (0,0))/\Fr w w' (fun _=>False)) (fun nv _=>(ab+q-intOf nv).toNat)
        case atStart=>exact ⟨(ab+q),rfl,Int.le_refl _,by omega,hb5,hF5⟩
        case round=>
         clear b0 b1 b2 b3 b4 b5 hb5 hF5;obtain ⟨n,rfl,hn1,hn2,hbn,hfn⟩:=hrel;obtain ⟨b0,b1,b2,b3,b4,b5⟩:=bj hbn;have hq1:=hq.out;clear hq1;have hwz:=hz n hn1;have hw:=fun W hW=>hwd W n hW
         by_cases hlt3:n<ab+q
         ·have hd1:decide (n<IntKind.i64.wrap (ab+q))=true:=by rw [HW1.out];simpa using hlt3
          have hzz:=hwz hlt3;have hrng:0<=n/\n<1024:=by omega
          have hstep:n+1<=ab+q:=by omega
          have hstep0:(ab+q)<=n+1:=by omega
          go_wp2_with fail
          go_region_held3 (fun w'=>w'.cell? ⟨Ba,0,none⟩=some (.int .i64 5)/\w'.cell? ⟨Ba,1,none⟩=some (.int .i64 ab)/\w'.cell? ⟨Ba,2,none⟩=some (.int .i64 an)/\w'.cell? ⟨Ba,3,none⟩=some (.int .i64 ar)/\w'.cell? ⟨Ba,4,none⟩=some (.int .i64 ag)/\w'.cell? ⟨Ba,5,none⟩=some (.int .i64 am)) (go_keep)
           ((go_at_call 55;refine (ks _).mono ?_;rintro e W6 ⟨rfl,hf6⟩;have hF6:=hfn.drew.step hf6 (fun _=>False.elim);have hb6:=hf6.same hbn id;obtain ⟨c0,c1,c2,c3,c4,c5⟩:=bj hb6))
          clear b0 b1 b2 b3 b4 b5 c0 c1 c2 c3 c4 c5;have hwn:=hw _ hF6 hrng;rw [hzz] at hwn;go_wp2_with (go_at_call 24;refine hwn.mono ?_;rintro e w1 ⟨rfl,he1⟩;obtain rfl:=he1.symm)
          go_roundw;case rel=>exact ⟨n+1,by go_num,hstep0,hstep,hb6,hF6⟩
          case measure=>simp [intOf];omega
         ·have hd1:decide (n<IntKind.i64.wrap (ab+q))=false:=by rw [HW1.out];simpa using hlt3
          go_wp2_with fail
          go_region_held3 (fun w'=>w'.cell? ⟨Ba,0,none⟩=some (.int .i64 5)/\w'.cell? ⟨Ba,1,none⟩=some (.int .i64 ab)/\w'.cell? ⟨Ba,2,none⟩=some (.int .i64 an)/\w'.cell? ⟨Ba,3,none⟩=some (.int .i64 ar)/\w'.cell? ⟨Ba,4,none⟩=some (.int .i64 ag)/\w'.cell? ⟨Ba,5,none⟩=some (.int .i64 am)) (go_keep)
           ((go_at_call 55;refine (ks _).mono ?_;rintro e W6 ⟨rfl,hf6⟩;have hF6:=hfn.drew.step hf6 (fun _=>False.elim);have hb6:=hf6.same hbn id;obtain ⟨c0,c1,c2,c3,c4,c5⟩:=bj hb6))
          go_wp2;go_roundw;case rel=>exact ⟨i+1,by omega,by go_num,hF6⟩
          case measure=>simp [intOf];omega
       | false=>
        have hz:=hz5 rfl;clear hz5;go_wp2;-- the words
        go_loopw [12] (fun nv w'=>∃n:Int,nv=.int .i64 n/\ab<=n/\n<=ab+q/\w'.heap[Ba]?=some (.cells #[.int .i64 5,.int .i64 ab,.int .i64 an,.int .i64 ar,.int .i64 ag,.int .i64 am] 51 (0,0))/\Fr w w' (fun _=>False)) (fun nv _=>(ab+q-intOf nv).toNat)
        case atStart=>exact ⟨ab,rfl,Int.le_refl _,by omega,hb5,hF5⟩
        case round=>
         clear b0 b1 b2 b3 b4 b5 hb5 hF5;obtain ⟨n,rfl,hn1,hn2,hbn,hfn⟩:=hrel;obtain ⟨b0,b1,b2,b3,b4,b5⟩:=bj hbn;have hq1:=hq.out;clear hq1;have hwz:=hz n hn1;have hw:=fun W hW=>hwd W n hW
         by_cases hlt3:n<ab+q
         ·have hd1:decide (n<IntKind.i64.wrap (ab+q))=true:=by rw [HW1.out];simpa using hlt3
          have hzz:=hwz hlt3;have hrng:0<=n/\n<1024:=by omega
          have hstep:n+1<=ab+q:=by omega
          have hstep0:ab<=n+1:=by omega
          go_wp2_with fail
          go_region_held3 (fun w'=>w'.cell? ⟨Ba,0,none⟩=some (.int .i64 5)/\w'.cell? ⟨Ba,1,none⟩=some (.int .i64 ab)/\w'.cell? ⟨Ba,2,none⟩=some (.int .i64 an)/\w'.cell? ⟨Ba,3,none⟩=some (.int .i64 ar)/\w'.cell? ⟨Ba,4,none⟩=some (.int .i64 ag)/\w'.cell? ⟨Ba,5,none⟩=some (.int .i64 am)) (go_keep)
           ((go_at_call 55;refine (ks _).mono ?_;rintro e W6 ⟨rfl,hf6⟩;have hF6:=hfn.drew.step hf6 (fun _=>False.elim);have hb6:=hf6.same hbn id;obtain ⟨c0,c1,c2,c3,c4,c5⟩:=bj hb6))
          clear b0 b1 b2 b3 b4 b5 c0 c1 c2 c3 c4 c5;have hwn:=hw _ hF6 hrng;rw [hzz] at hwn;go_wp2_with (go_at_call 24;refine hwn.mono ?_;rintro e w1 ⟨rfl,he1⟩;obtain rfl:=he1.symm)
          go_roundw;case rel=>exact ⟨n+1,by go_num,hstep0,hstep,hb6,hF6⟩
          case measure=>simp [intOf];omega
         ·have hd1:decide (n<IntKind.i64.wrap (ab+q))=false:=by rw [HW1.out];simpa using hlt3
          go_wp2_with fail
          go_region_held3 (fun w'=>w'.cell? ⟨Ba,0,none⟩=some (.int .i64 5)/\w'.cell? ⟨Ba,1,none⟩=some (.int .i64 ab)/\w'.cell? ⟨Ba,2,none⟩=some (.int .i64 an)/\w'.cell? ⟨Ba,3,none⟩=some (.int .i64 ar)/\w'.cell? ⟨Ba,4,none⟩=some (.int .i64 ag)/\w'.cell? ⟨Ba,5,none⟩=some (.int .i64 am)) (go_keep)
           ((go_at_call 55;refine (ks _).mono ?_;rintro e W6 ⟨rfl,hf6⟩;have hF6:=hfn.drew.step hf6 (fun _=>False.elim);have hb6:=hf6.same hbn id;obtain ⟨c0,c1,c2,c3,c4,c5⟩:=bj hb6))
          go_wp2;go_roundw;case rel=>exact ⟨i+1,by omega,by go_num,hF6⟩
          case measure=>simp [intOf];omega
    ·have hz:∀n:Int,ab+q<=n->n<ab+q->R.ws n.toNat=0:=fun n g1 g2=>by omega
     have hb1:(at_==1)=false:=by simpa using hA1
     clear hun hfr;go_wp2;go_loopw [10,11] (fun ov jv w'=>∃j m:Nat,j<=B.length/\ov=.bool (bq B 5 ab j)/\jv=.int .i64 j/\w'=W3.drewN m) (fun _ jv _=>B.length-(intOf jv).toNat)
     case atStart=>exact ⟨0,0,Nat.zero_le _,rfl,rfl,rfl⟩
     case round=>
      obtain ⟨j,mm,hj,rfl,rfl,rfl⟩:=hrel;by_cases hlt2:j<B.length
      ·obtain ⟨gb,rfl,hcb⟩:=hB (by omega);have hbr:=mr hcb j hlt2;have u2:=ah (hF3.cell hbr.c2 id) mm;have u3:=ah (hF3.cell hbr.c3 id) mm;have v1:=ah b1 mm;have hfin:∀x,∃m',(W3.drewN mm).drewN x=W3.drewN m':=fun x=>⟨mm+x,o9 W3 mm x⟩
       have hT:Hid (bq B 5 ab (j+1)=(bq B 5 ab j || (B[j].ty==5 && B[j].base==ab))):=by show _=_;simp [bq,hlt2,ik]
       clear hB hcb hbr b0 b1 b2 b3 b4 b5 hA1 hA5 hz;generalize W3.drewN mm=W5 at u2 u3 v1 hfin ⊢;generalize bq B 5 ab j=t0 at hT ⊢;generalize B[j].ty=bt at *
       generalize B[j].base=bb at *
       cases t0 with
       | true=>
        have hT2:bq B 5 ab (j+1)=true:=by rw [hT.out];rfl
        clear hT;go_wp2_with fail
        go_quiet (fail)
        obtain ⟨m',hm'⟩:=hfin nq;go_wp2;go_roundw;all_goals (first | exact ⟨j+1,m',by omega,by rw [hT2],by go_num,by first | rfl | exact hm'⟩ | (simp [intOf];omega) | ((repeat (refine ⟨_,?_⟩));refine ⟨?_,rfl⟩;exact ⟨j+1,m',by omega,by rw [hT2],by go_num,by first | rfl | exact hm'⟩) | skip)
       | false=>
        by_cases h1:bt=5
        ·by_cases h2:bb=ab
         ·have hT2:bq B 5 ab (j+1)=true:=by rw [hT.out,h1,h2];simp
          clear hT;subst h1 h2;go_wp2_with fail
          go_quiet (fail)
          obtain ⟨m',hm'⟩:=hfin nq;go_wp2;go_roundw;all_goals (first | exact ⟨j+1,m',by omega,by rw [hT2],by go_num,by first | rfl | exact hm'⟩ | (simp [intOf];omega) | ((repeat (refine ⟨_,?_⟩));refine ⟨?_,rfl⟩;exact ⟨j+1,m',by omega,by rw [hT2],by go_num,by first | rfl | exact hm'⟩) | skip)
         ·have hT2:bq B 5 ab (j+1)=false:=by rw [hT.out];simp [h2]
          clear hT;subst h1;go_wp2_with fail
          go_quiet (fail)
          obtain ⟨m',hm'⟩:=hfin nq;go_wp2;go_roundw;all_goals (first | exact ⟨j+1,m',by omega,by rw [hT2]<;>simp [h2],by go_num,by first | rfl | exact hm'⟩ | (simp [intOf];omega) | ((repeat (refine ⟨_,?_⟩));refine ⟨?_,rfl⟩;exact ⟨j+1,m',by omega,by rw [hT2]<;>simp [h2],by go_num,by first | rfl | exact hm'⟩) | skip)
        ·have hT2:bq B 5 ab (j+1)=false:=by rw [hT.out];simp [h1]
         clear hT;go_wp2_with fail
         go_quiet (fail)
         obtain ⟨m',hm'⟩:=hfin nq;go_wp2;go_roundw;all_goals (first | exact ⟨j+1,m',by omega,by rw [hT2],by go_num,by first | rfl | exact hm'⟩ | (simp [intOf];omega) | ((repeat (refine ⟨_,?_⟩));refine ⟨?_,rfl⟩;exact ⟨j+1,m',by omega,by rw [hT2],by go_num,by first | rfl | exact hm'⟩) | skip)
      ·have hk:j=B.length:=by omega
       subst hk;have hF5:=hF3.drewN mm;have hb5:=hb3;replace hb5:(W3.drewN mm).heap[Ba]?=some (.cells #[.int .i64 at_,.int .i64 ab,.int .i64 an,.int .i64 ar,.int .i64 ag,.int .i64 am] 51 (0,0)):=hb5;generalize bq B 5 ab B.length=old at *
       clear b0 b1 b2 b3 b4 b5 hb3 hB;generalize W3.drewN mm=W5 at hF5 hb5 ⊢;obtain ⟨b0,b1,b2,b3,b4,b5⟩:=bj hb5;go_wp2;-- the words
       go_loopw [12] (fun nv w'=>∃n:Int,nv=.int .i64 n/\(ab+q)<=n/\n<=ab+q/\w'.heap[Ba]?=some (.cells #[.int .i64 at_,.int .i64 ab,.int .i64 an,.int .i64 ar,.int .i64 ag,.int .i64 am] 51 (0,0))/\Fr w w' (fun _=>False)) (fun nv _=>(ab+q-intOf nv).toNat)
       case atStart=>exact ⟨(ab+q),rfl,Int.le_refl _,by omega,hb5,hF5⟩
       case round=>
        clear b0 b1 b2 b3 b4 b5 hb5 hF5;obtain ⟨n,rfl,hn1,hn2,hbn,hfn⟩:=hrel;obtain ⟨b0,b1,b2,b3,b4,b5⟩:=bj hbn;have hq1:=hq.out;clear hq1;have hwz:=hz n hn1;have hw:=fun W hW=>hwd W n hW
        by_cases hlt3:n<ab+q
        ·have hd1:decide (n<IntKind.i64.wrap (ab+q))=true:=by rw [HW1.out];simpa using hlt3
         have hzz:=hwz hlt3;have hrng:0<=n/\n<1024:=by omega
         have hstep:n+1<=ab+q:=by omega
         have hstep0:(ab+q)<=n+1:=by omega
         go_wp2_with fail
         go_region_held3 (fun w'=>w'.cell? ⟨Ba,0,none⟩=some (.int .i64 at_)/\w'.cell? ⟨Ba,1,none⟩=some (.int .i64 ab)/\w'.cell? ⟨Ba,2,none⟩=some (.int .i64 an)/\w'.cell? ⟨Ba,3,none⟩=some (.int .i64 ar)/\w'.cell? ⟨Ba,4,none⟩=some (.int .i64 ag)/\w'.cell? ⟨Ba,5,none⟩=some (.int .i64 am)) (go_keep)
          ((go_at_call 55;refine (ks _).mono ?_;rintro e W6 ⟨rfl,hf6⟩;have hF6:=hfn.drew.step hf6 (fun _=>False.elim);have hb6:=hf6.same hbn id;obtain ⟨c0,c1,c2,c3,c4,c5⟩:=bj hb6))
         clear b0 b1 b2 b3 b4 b5 c0 c1 c2 c3 c4 c5;have hwn:=hw _ hF6 hrng;rw [hzz] at hwn;go_wp2_with (go_at_call 24;refine hwn.mono ?_;rintro e w1 ⟨rfl,he1⟩;obtain rfl:=he1.symm)
         go_roundw;case rel=>exact ⟨n+1,by go_num,hstep0,hstep,hb6,hF6⟩
         case measure=>simp [intOf];omega
        ·have hd1:decide (n<IntKind.i64.wrap (ab+q))=false:=by rw [HW1.out];simpa using hlt3
         go_wp2_with fail
         go_region_held3 (fun w'=>w'.cell? ⟨Ba,0,none⟩=some (.int .i64 at_)/\w'.cell? ⟨Ba,1,none⟩=some (.int .i64 ab)/\w'.cell? ⟨Ba,2,none⟩=some (.int .i64 an)/\w'.cell? ⟨Ba,3,none⟩=some (.int .i64 ar)/\w'.cell? ⟨Ba,4,none⟩=some (.int .i64 ag)/\w'.cell? ⟨Ba,5,none⟩=some (.int .i64 am)) (go_keep)
          ((go_at_call 55;refine (ks _).mono ?_;rintro e W6 ⟨rfl,hf6⟩;have hF6:=hfn.drew.step hf6 (fun _=>False.elim);have hb6:=hf6.same hbn id;obtain ⟨c0,c1,c2,c3,c4,c5⟩:=bj hb6))
         go_wp2;go_roundw;case rel=>exact ⟨i+1,by omega,by go_num,hF6⟩
         case measure=>simp [intOf];omega
  ·go_wp2;go_ret;exact ⟨rfl,hf⟩
end Go.Proofs.YtdpjgflemddekaaDoor
