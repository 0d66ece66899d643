import PyProof.Rows.All
import Wide.All
import OpenK.AllK
import Wide.FinOn
import KE.KStateDown
import KE.KOpsOwn
import HandS.ForMost
import HandS.Set
import HandS.SetBool
import HandS.Strs
import HandS.More
import HandS.Words
import HandS.WordsExc
import HandS.Defaults
import HandS.Codes
import HandS.Deep
import HandS.IsInst
import HandS.Style
import HandS.Property
import HandS.Flow
import HandS.Evl
import HandS.DictTup
import HandS.Conv
import HandS.Iter
import KE.GoesEnum
import KE.GoesMore
import HandS.Head0
import HandS.Head1
import HandS.Head2
import HandS.Head3
import HandS.HeadEnd
import HandS.HeadHook1
import HandS.HeadHook2
import HandS.Walk
import HandS.DictComp
import HandS.OwnEq
import PyProof.InstEq
import PyProof.InstNe
import HandS.SortKw
import HandS.Finally
import PyProof.StrBlock2
import PyProof.Rows.SetFrom
import HandS.SetKeys
import KE.KSuper
import KE.KExcSuper
import HandS.Exc
import HandS.ExcInit
import HandS.ExcField
import HandS.ExcOwn
import HandS.CallSlots
import HandS.FStr
import HandS.TupAny
import KE.KExcIs
import HandS.DeepEq
import PyProof.EqAt
import HandS.Comp
import HandS.List
import PyProof.EqKinds
import HandS.Base
import HandS.Call
import KE.KIsAll
import PyProof.SetRoads
import KE.KDictCopyH
import KE.KDictLaws
import HandS.Dict
import PySem.Challenge.RW_leastguards_k13_whole_wanted_ends
set_option Elab.async false
set_option linter.all false
set_option maxRecDepth 100000
set_option maxHeartbeats 4000000
namespace Lw
open PySem PySem.Spec PyProof.Rows L2

end Lw
/-! Sets of texts: filled, asked, walked, sorted. -/
namespace Txs
open PySem PySem.Spec PyProof.Rows L2

def txOf (e : Int × Value) : Str := match e.2 with | .str x _ => x | _ => Str.empty
def TxE (P : Program) (w : World) (e : Int × Value) : Prop := ∃ x t, e = ((PySem.strKind P w).hash x, Value.str x t)

/-- the entries es under the table t are the texts S -/
structure Tab (P : Program) (w : World) (es : Array (Int × Value)) (t : SetTable) (S : Str → Bool) : Prop where
  all : ∀ e ∈ es.toList, TxE P w e
  once : (es.toList.map txOf).Nodup
  just : ∀ x, S x = true ↔ x ∈ es.toList.map txOf
  few : es.size < scanBound
  fits : t.fits es.size = true
  rises : Ris t.place.toList
  known : w.params.followText "set-order" = true ∨ t.led = true
def SetT (P : Program) (w : World) (h : Heap) (a : Addr) (S : Str → Bool) (n : Nat) : Prop :=
  ∃ ob es ep t, h.get? a = some ob ∧ ob.ExactSet ∧ ob.data = .set es ep t ∧ Tab P w es t S ∧ es.size = n

section
variable {P : Program} {w : World} {h h' : Heap} {a : Addr} {S S' : Str → Bool} {n : Nat} {es : Array (Int × Value)} {t : SetTable}
theorem SetT.stay (z : SetT P w h a S n) (k : ∀ ob, h.get? a = some ob → h'.get? a = some ob) : SetT P w h' a S n :=
  let ⟨ob, es, ep, t, e, r⟩ := z
  ⟨ob, es, ep, t, k ob e, r⟩
theorem SetT.same (z : SetT P w h a S n) (q : ∀ x, S' x = S x) : SetT P w h a S' n := by
  rw [show S' = S from funext q]; exact z
theorem tx_is (x : Str) (tk : Tok) (k : Str) : (PySem.strKind P w).is k (.str x tk) = true ↔ x = k := by
  simp [PySem.strKind, Value.isStrOf]
theorem Tab.elems (T : Tab P w es t S) : ElemsOf (PySem.strKind P w) es.toList := fun e he => by
  obtain ⟨x, tk, rfl⟩ := T.all e he
  exact ⟨⟨x, (tx_is x tk x).2 rfl, rfl⟩, rfl⟩
theorem Tab.has (T : Tab P w es t S) (k : Str) : S k = true ↔ ∃ e ∈ es.toList, (PySem.strKind P w).is k e.2 = true := by
  rw [T.just k, List.mem_map]
  refine exists_congr fun e => and_congr_right fun he => ?_
  obtain ⟨x, tk, rfl⟩ := T.all e he
  exact (tx_is x tk k).symm
theorem SetT.plainSet (z : SetT P w h a S n) : h.SetOf (PySem.strKind P w) a S n :=
  let ⟨ob, es, ep, t, e, ex, d, T, c⟩ := z
  ⟨ob, es, ep, t, e, ex, d, T.elems, T.has, T.few, T.fits, c⟩
/-- the entries in another order, under another table -/
theorem Tab.turn (T : Tab P w es t S) {fs : Array (Int × Value)} {t' : SetTable} (p : fs.toList.Perm es.toList) (hf : t'.fits fs.size = true) (hr : Ris t'.place.toList) (hl : t'.led = t.led) : Tab P w fs t' S where
  all := fun e he => T.all e (p.mem_iff.mp he)
  once := (p.map txOf).nodup_iff.mpr T.once
  just := fun x => (T.just x).trans (p.map txOf).mem_iff.symm
  few := by rw [← Array.length_toList, p.length_eq, Array.length_toList]; exact T.few
  fits := hf
  rises := hr
  known := T.known.imp id fun q => hl.trans q
/-- one text more -/
theorem Tab.more (T : Tab P w es t S) {x : Str} {tk : Tok} (hx : S x = false) {fs : Array (Int × Value)} {t' : SetTable} (p : fs.toList.Perm (es.push ((PySem.strKind P w).hash x, .str x tk)).toList)
    (hb : es.size + 1 < scanBound) (hf : t'.fits fs.size = true) (hr : Ris t'.place.toList) (hl : t'.led = t.led) : Tab P w fs t' (fun y => S y || decide (y = x)) := by
  rw [Array.toList_push] at p
  have p : fs.toList.Perm (((PySem.strKind P w).hash x, Value.str x tk) :: es.toList) := p.trans (List.perm_append_singleton _ _)
  have pm : (fs.toList.map txOf).Perm (x :: es.toList.map txOf) := p.map txOf
  have nx : ¬ x ∈ es.toList.map txOf := fun q => by rw [(T.just x).2 q] at hx; cases hx
  exact {
    all := fun e he => (List.mem_cons.mp (p.mem_iff.mp he)).elim (fun z => ⟨x, tk, z⟩) (T.all e)
    once := pm.nodup_iff.mpr (List.nodup_cons.mpr ⟨nx, T.once⟩)
    just := fun y => by rw [Bool.or_eq_true, decide_eq_true_eq, T.just y, pm.mem_iff, List.mem_cons, or_comm]
    few := by rw [← Array.length_toList, p.length_eq, List.length_cons, Array.length_toList]; exact hb
    fits := hf
    rises := hr
    known := T.known.imp id fun q => hl.trans q }
end

section
variable {P : Program} {w : World} {A : Around} {E : Value → Shared → Prop} {s : Shared} {a : Addr} {S : Str → Bool} {n : Nat}
theorem put_get {h : Heap} {ob : Obj} {es fs : Array (Int × Value)} {ep : Nat} {t t' : SetTable} (e : h.get? a = some ob) (d : ob.data = .set es ep t) :
    (h.update a (Obj.putSet fs t')).get? a = some { ob with data := .set fs (ep + 1) t' } :=
  (Heap.get?_update_self (Obj.putSet fs t') e (by rw [putSet_of fs t' d]; rfl)).trans (by rw [putSet_of fs t' d])
/-- the table is stored, and laid anew where it is full -/
theorem lay_tail {g : Bool → Sem Unit} (hg : ∀ (b : Bool) (s' : Shared) (R : Unit → Shared → Prop), R () s' → wpAny (model P w) A (g b) R E s') {ob : Obj} {es fs : Array (Int × Value)} {ep : Nat} {t t' : SetTable}
    (e : s.heap.get? a = some ob) (ex : ob.ExactSet) (d : ob.data = .set es ep t) (T : Tab P w fs t' S) {dummy : Bool} {R : Option Bool → Shared → Prop}
    (k : ∀ h', Heap.SameBut a s.heap h' → SetT P w h' a S fs.size → R (some true) { s with heap := h' }) :
    wpAny (model P w) A (do
      storeSet a fs t'
      if (!dummy && t'.tooFull) = true then do
        g (relayAll t' fs (SetTable.grown fs.size)).2.2
        storeSet a (relayAll t' fs (SetTable.grown fs.size)).1 (relayAll t' fs (SetTable.grown fs.size)).2.1
        pure (some true)
      else pure (some true)) R E s := by
  have g1 := put_get (fs := fs) (t' := t') e d
  have b1 := Heap.SameBut.update s.heap a (Obj.putSet fs t')
  refine wpAny_bind (wpAny_storeSet_of e d ?_ (fits_of_scanBound T.few))
  split
  · obtain ⟨p, f, r, l⟩ : _ ∧ _ ∧ _ ∧ _ := ⟨relayAll_perm t' fs (SetTable.grown fs.size), relayAll_fits t' fs (SetTable.grown fs.size), relayAll_ris t' fs (SetTable.grown fs.size), relayAll_led t' fs (SetTable.grown fs.size)⟩
    generalize relayAll t' fs (SetTable.grown fs.size) = Y at p f r l ⊢
    obtain ⟨gs, u, b⟩ := Y
    have T2 : Tab P w gs u S := T.turn p f r l
    have sz : gs.size = fs.size := by rw [← Array.length_toList, p.length_eq, Array.length_toList]
    have d1 : ({ ob with data := .set fs (ep + 1) t' } : Obj).data = .set fs (ep + 1) t' := rfl
    refine wpAny_bind (hg _ _ _ ?_)
    refine wpAny_bind (wpAny_storeSet_of g1 d1 ?_ (fits_of_scanBound T2.few))
    exact wpAny_pure (k _ (b1.trans (Heap.SameBut.update _ a _)) ⟨_, gs, _, u, put_get g1 d1, ex, rfl, T2, sz⟩)
  · exact wpAny_pure (k _ b1 ⟨_, fs, _, t', g1, ex, rfl, T, rfl⟩)
theorem gave {b : Bool} {s' : Shared} {R : Unit → Shared → Prop} (r : R () s') : wpAny (model P w) A (match b with | true => rule "set.scan.the-table-gave-way" | false => pure ()) R E s' := by
  cases b
  · exact wpAny_pure r
  · exact wpAny_rule r
theorem add_hashed {x : Str} {tk : Tok} {R : Bool → Shared → Prop} (z : SetT P w s.heap a S n) (room : n + 1 < scanBound)
    (k : ∀ h', Heap.SameBut a s.heap h' → SetT P w h' a (fun y => S y || decide (y = x)) (if S x = true then n else n + 1) → R (!S x) { s with heap := h' }) :
    wpAny (model P w) A (setAddHashed a (.str x tk) ((PySem.strKind P w).hash x)) R E s := by
  obtain ⟨ob, es, ep, t, e, ex, d, T, rfl⟩ := z
  have kx : (PySem.strKind P w).is x (.str x tk) = true := (tx_is x tk x).2 rfl
  unfold setAddHashed setAddHashedIn
  refine wpAny_holding (wpAny_bind (wpAny_setState_of e d T.fits ?_))
  dsimp only
  rw [show byScan (Value.str x tk) es = true from byScan_of rfl T.few T.elems]
  simp only [if_true]
  unfold setAddByScan
  refine wpAny_bind (wpAny_bind (wpAny_rule (wpAny_bind (wpAny_setScan_of kx e d T.fits T.elems ?_))))
  cases fnd : es.toList.findIdx? (fun e => (PySem.strKind P w).is x e.2) with
  | some j =>
    have sx : S x = true := by
      obtain ⟨lt, at_, _⟩ := List.findIdx?_eq_some_iff_getElem.mp fnd
      exact (T.has x).2 ⟨_, List.getElem_mem lt, at_⟩
    have js : ∀ y, (S y || decide (y = x)) = true ↔ y ∈ es.toList.map txOf := fun y => by
      rw [Bool.or_eq_true, decide_eq_true_eq, ← T.just y]
      exact ⟨fun q => q.elim id fun q => q ▸ sx, .inl⟩
    have k' := k s.heap (Heap.SameBut.refl a s.heap) ⟨ob, es, ep, t, e, ex, d, ⟨T.all, T.once, js, T.few, T.fits, T.rises, T.known⟩, by rw [if_pos sx]⟩
    rw [sx] at k'
    exact wpAny_pure (wpAny_pure k')
  | none =>
    have sx : S x = false := by
      cases q : S x with
      | false => rfl
      | true =>
        obtain ⟨e', he, p⟩ := (T.has x).1 q
        have := List.findIdx?_eq_none_iff.mp fnd e' he
        rw [p] at this; cases this
    obtain ⟨p, f, r, l⟩ : _ ∧ _ ∧ _ ∧ _ := ⟨layNew_perm t es ((PySem.strKind P w).hash x) (.str x tk), layNew_fits t es ((PySem.strKind P w).hash x) (.str x tk), layNew_ris t es ((PySem.strKind P w).hash x) (.str x tk) T.rises, layNew_led t es ((PySem.strKind P w).hash x) (.str x tk)⟩
    dsimp only
    generalize layNew t es ((PySem.strKind P w).hash x) (.str x tk) = Y at p f r l ⊢
    obtain ⟨fs, u, dm, gv⟩ := Y
    dsimp only at p f r l ⊢
    have sz : fs.size = es.size + 1 := by rw [← Array.length_toList, p.length_eq, Array.length_toList, Array.size_push]
    have T2 : ∀ u' : SetTable, u'.fits fs.size = true → Ris u'.place.toList → u'.led = t.led → Tab P w fs u' (fun y => S y || decide (y = x)) := fun u' => T.more sx p room
    have fin : ∀ h', Heap.SameBut a s.heap h' → SetT P w h' a (fun y => S y || decide (y = x)) fs.size → R true { s with heap := h' } := fun h' b q => by
      have := k h' b
      rw [sx, if_neg Bool.false_ne_true, ← sz] at this
      exact this q
    refine wpAny_bind (gave ?_)
    split
    · refine wpAny_bind ?_
      rw [hashByValue_scannable 8 (x := Value.str x tk) rfl]
      refine wpAny_pure (lay_tail (fun b s' R q => gave q) e ex d ?_ fun h' b q => wpAny_pure (fin h' b q))
      first
        | exact T2 _ f r l
        | (split
           · exact T2 _ f r l
           · exact T2 _ (SetTable.fits_plain_off f) r l)
    · refine wpAny_bind (wpAny_pure ?_)
      simp only [if_true]
      exact lay_tail (fun b s' R q => gave q) e ex d (T2 _ f r l) fun h' b q => wpAny_pure (fin h' b q)
/-- a.add(x) -/
theorem add_call {x : Str} {tk : Tok} {R : Value → Shared → Prop} (z : SetT P w s.heap a S n) (room : n + 1 < scanBound)
    (k : ∀ h', Heap.SameBut a s.heap h' → SetT P w h' a (fun y => S y || decide (y = x)) (if S x = true then n else n + 1) → R .none { s with heap := h', toks := s.toks + 1 }) :
    wpAny (model P w) A (call (.builtin "set.add") [.ref a, .str x tk]) R E s := by
  refine wpAny_call_entry F.slot_set_add z.plainSet.typeIs F.entry_set_add ?_ (F.args_set_add_2 _ _)
  unfold Builtin.«set.add» Builtin.Frozenset.oneOther Builtin.Frozenset.addrOf setAdd
  simp only [List.isEmpty_nil, bind_assoc]
  refine wpAny_bind (wpAny_pure ?_)
  try dsimp only
  refine wpAny_bind (wpAny_pure ?_)
  try dsimp only
  refine wpAny_bind (wpAny_holding (wpAny_bind ((PySem.strKind P w).pyHash ((tx_is x tk x).2 rfl) ?_)))
  exact add_hashed (s := { s with toks := s.toks + 1 }) z room fun h' b q => (show wpAny _ _ (ret Value.none) _ _ _ from wpAny_pure ⟨_, rfl, k h' b q⟩)
end
end Txs


namespace Txs
open PySem PySem.Spec PyProof.Rows L2
/-- a new set's object -/
abbrev eSet (w : World) : Obj := { cls := .type "set", dict := none, data := .set #[] 0 (.fresh 0 0 (!w.params.followText "set-order")) }
theorem eSet_ok {P : Program} (w : World) {h : Heap} : SetT P w (h.push (eSet w)) h.objs.size (fun _ => false) 0 := by
  refine ⟨_, #[], 0, _, Heap.get?_push_size _ rfl, ⟨rfl, rfl, rfl⟩, rfl, ⟨by simp, by simp, by simp, by decide, rfl, List.Pairwise.nil, ?_⟩, rfl⟩
  show _ ∨ (!w.params.followText "set-order") = true
  cases w.params.followText "set-order" <;> simp
section
variable {P : Program} {w : World} {A : Around} {E : Value → Shared → Prop} {s : Shared}
/-- type(set) makes one, its one argument not looked at -/
theorem new_one (u : Value) {R : Value → Shared → Prop} (k : R (.ref s.heap.objs.size) { s with heap := s.heap.push (eSet w) }) : codeAny (model P w) A (.call (.builtin "set.__new__") ⟨[.type "set", u], []⟩) (wants R E) s := by
  refine codeAny_of_tree (show wpAny _ A.in1 (do checkBuiltinCall "set.__new__" ⟨[.type "set", u], []⟩; again (.builtin "set.__new__" ⟨[.type "set", u], []⟩)) _ _ s from wpAny_bind (wpAny_of_eq (PySem.F.newCall_set_1 u) (wpAny_pure ⟨plainId_quiet F.plain_set_new _, codeAny_builtin F.entry_set_new ?_⟩)))
  rw [Around.under_plainId F.plain_set_new _]
  have sub_ := sub_set_self
  unfold Builtin.«set.__new__» Builtin.Frozenset.newClass
  cases s
  dsimp only
  wp_walk
  refine wpAny_askSetting (wpAny_pure ?_)
  simp only [newObj]
  exact wpAny_bind (wpAny_alloc (wpAny_pure (wpAny_pure k)))
end
section
variable {P : Program} {w : World} {A : Around} {R : Result → Shared → Prop} {I : Addr} {fp wr : List Addr} {G : Array GenState → Array GenState → Prop} {n : Nat} {Y : Nat → Value → Prop} {St : Nat → Shared → Prop}
/-- the loop that fills it -/
theorem fill_loop (W : WalksS P w A.in1 I fp wr G n Y St) (D : Addr) (nf : D ∉ fp) (xs : List Str) (len : xs.length = n) (room : n + 1 < scanBound) (hv : ∀ i v, Y i v → ∃ t, v = .str (xs.getD i Str.empty) t) :
    ∀ (m i c : Nat) (s : Shared), n - i = m → i ≤ n → c ≤ i → St i s → SetT P w s.heap D (fun x => decide (x ∈ xs.take i)) c →
      (∀ s' c', c' ≤ n → Moved (D :: wr) G s s' → SetT P w s'.heap D (fun x => decide (x ∈ xs.take n)) c' → R (.ok (.ret .none)) s') → codeAny (model P w) A (.builtin "set.update.loop" ⟨[.ref D, .ref I], []⟩) R s := by
  have nw : D ∉ wr := fun z => nf (W.sub _ z)
  intro m
  induction m with
  | zero =>
    intro i c s e hi hc st T fin
    obtain rfl : i = n := by omega
    refine codeAny_builtin PyProof.Rows.F.entry_set_update_loop ?_
    rw [Around.under_plainId PyProof.Rows.F.plain_set_update_loop _]
    refine (show wpAny _ A.in1 (pyNext (.ref I) >>= _) _ _ s from wpAny_bind (W.done s _ _ st fun s' mv => ?_))
    exact (show wpAny _ A.in1 (ret Value.none) _ _ s' from wpAny_pure (fin s' c hc (mv.mono fun b z => List.mem_cons_of_mem _ z) (T.stay fun ob q => mv.heap D _ nw q)))
  | succ m ih =>
    intro i c s e hi hc st T fin
    have lt : i < n := by omega
    have li : i < xs.length := by omega
    refine codeAny_builtin PyProof.Rows.F.entry_set_update_loop ?_
    rw [Around.under_plainId PyProof.Rows.F.plain_set_update_loop _]
    refine (show wpAny _ A.in1 (pyNext (.ref I) >>= _) _ _ s from wpAny_bind (W.item i s _ _ lt st fun v s' y st' mv => ?_))
    obtain ⟨tk, rfl⟩ := hv i v y
    have T1 : SetT P w s'.heap D (fun x => decide (x ∈ xs.take i)) c := T.stay fun ob q => mv.heap D _ nw q
    generalize hx : xs.getD i Str.empty = x
    have tk1 : xs.take (i + 1) = xs.take i ++ [x] := by
      rw [List.take_succ, ← hx]; simp [List.getD, li]
    refine (show wpAny _ A.in1 (holding [Value.str x tk] (setAdd D (.str x tk)) >>= _) _ _ s' from wpAny_bind (wpAny_holding ?_))
    unfold setAdd
    refine wpAny_holding (wpAny_bind ((PySem.strKind P w).pyHash ((tx_is x tk x).2 rfl) (add_hashed (s := { s' with toks := s'.toks + 1 }) T1 (by omega) fun h' b q => ?_)))
    have q' : SetT P w h' D (fun y => decide (y ∈ xs.take (i + 1))) (if decide (x ∈ xs.take i) = true then c else c + 1) := q.same fun y => by
      rw [tk1, ← Bool.decide_or]
      exact decide_eq_decide.mpr (by simp)
    refine wpAny_pure ⟨plainId_quiet PyProof.Rows.F.plain_set_update_loop _, ih (i + 1) _ _ (by omega) lt (by split <;> omega) (W.frame _ s' _ _ st' (Nat.le_succ _) fun z hz o g => ?_) q' fun s2 c2 h2 mv2 T2 => ?_⟩
    · exact (b.2 z fun e : z = D => nf (e ▸ hz)).trans g
    · refine fin s2 c2 h2 (Moved.trans W.gtrans ((mv.mono fun b z => List.mem_cons_of_mem _ z).then_heap (Nat.le_succ _) fun z o hz g => ?_) mv2) T2
      exact (b.2 z fun e : z = D => hz (e ▸ List.mem_cons_self)).trans g
end
section
variable {P : Program} {w : World} {A : Around} {E : Value → Shared → Prop} {s : Shared}

set_option maxHeartbeats 8000000 in
theorem set_list {l : Addr} {items : Array Value} {xs : List Str} {R : Value → Shared → Prop} (hh : A.handled = none) (hl : s.heap.IsList l items) (ht : StrsAre items.toList xs) (room : xs.length + 1 < scanBound)
    (k : ∀ (h' : Heap) (tk c : Nat), c ≤ xs.length → SetT P w h' s.heap.objs.size (fun x => decide (x ∈ xs)) c → (∀ b o, s.heap.get? b = some o → h'.get? b = some o) → R (.ref s.heap.objs.size) { s with heap := h', toks := tk }) :
    wpAny (model P w) A (call (.type "set") [.ref l]) R E s := by
  obtain ⟨_, _, mro_⟩ := PySem.F.called_set.mro
  obtain ⟨made_, sub_, nt_, can_, tc_⟩ : _ ∧ _ ∧ _ ∧ _ ∧ _ := ⟨PySem.F.called_set.made, PySem.F.called_set.sub, PySem.F.called_set.notType, PySem.F.called_set.canCreate, PySem.F.typeCall_set_1 (.ref l)⟩
  have atS := Heap.get?_push_size (h := s.heap) (o := eSet w) rfl
  have newS : Shared.TypeIs { s with heap := s.heap.push (eSet w) } (.ref s.heap.objs.size) "set" := ⟨_, atS, rfl⟩
  refine wpAny_call (codeAny_of_tree (show wpAny _ _ (callAny (.type "set") _) _ _ _ from wpAny_pure ⟨Code.quiet_builtin _ (by decide +kernel), codeAny_builtin PySem.F.entry_type_call ?_⟩))
  rw [Around.under_plain (weight_type_call_type "set" [.ref l] []) rfl]
  repeat (any_goals (first | assumption | wp_step))
  refine codeAny_mono (new_one (.ref l) (E := E) (R := fun u s1 => u = .ref s.heap.objs.size ∧ s1 = { s with heap := s.heap.push (eSet w) }) ⟨rfl, rfl⟩) fun r s1 z => ?_
  rcases r with _ | (_ | _ | _ | u)
  all_goals first | exact z | exact z.elim | skip
  obtain ⟨rfl, rfl⟩ := z
  have ini_ := PySem.F.called_set.init.lookup
  have bnd_ := PySem.F.called_set.init.bind (.ref s.heap.objs.size)
  repeat (any_goals (first | assumption | wp_step))
  refine codeAny_mono (codeAny_call_builtin (R := wants (fun u s2 => u = .none ∧ ∃ h' tk c, s2 = { s with heap := h', toks := tk } ∧ c ≤ xs.length ∧ SetT P w h' s.heap.objs.size (fun x => decide (x ∈ xs)) c ∧
    ∀ b o, s.heap.get? b = some o → h'.get? b = some o) E) PySem.F.called_set.init.plain PySem.F.entry_set_init (check_set_init_1 newS ?_)) fun r s2 z => ?_
  · obtain ⟨⟨oc, od, dt, sl⟩, ol, ec, nl, ed⟩ := hl
    dsimp only at ec ed
    subst ec ed
    have ol' : (s.heap.push (eSet w)).get? l = some { cls := .type "list", dict := od, data := .seq items nl, slots := sl } := Heap.get?_push_of_some _ ol
    obtain ⟨s1_, s2_⟩ := And.intro PySem.F.sub_list_set PySem.F.sub_list_frozenset
    have nd_ : (Value.type "list" == Value.type "dict") = false := by decide
    have il : (s.heap.push (eSet w)).IsList l items := ⟨_, ol', rfl, nl, rfl⟩
    have ll : l < s.heap.objs.size := Heap.lt_size ol
    unfold Builtin.«set.__init__» noKeywords Builtin.Frozenset.updateFrom
    generalize hPI : pyIter = PI
    wp_walk
    subst hPI
    refine wpAny_pyIter_list il (wpAny_bind (wpAny_runValue ?_))
    have sz1 : (s.heap.push (eSet w)).objs.size = s.heap.objs.size + 1 := size_push' _ _
    have ne1 : l ≠ (s.heap.push (eSet w)).objs.size := by rw [sz1]; exact Nat.ne_of_lt (Nat.lt_succ_of_lt ll)
    have nf : s.heap.objs.size ∉ [(s.heap.push (eSet w)).objs.size, l] := fun z => by
      rcases List.mem_cons.mp z with z | z
      · rw [sz1] at z; exact absurd z (Nat.ne_of_lt (Nat.lt_succ_self _))
      · exact absurd (List.mem_singleton.mp z) (Nat.ne_of_gt ll)
    have len : xs.length = items.size := by rw [← StrsAre.len_eq ht, Array.length_toList]
    refine fill_loop ((Walks.list (show A.in1.in1.in1.handled = none by simp [hh]) _ l ne1 items).toS) s.heap.objs.size nf xs len (by rw [← len]; exact room)
      (fun i v e => SS.strs_at ht i v (by rw [Array.getElem?_toList]; exact e)) (items.size - 0) 0 0 _ (by omega) (Nat.zero_le _) (Nat.zero_le _) ⟨⟨_, Heap.get?_push_size _ rfl, rfl, rfl⟩, il.push _⟩ ?z0 ?z1
    case z0 => exact ((eSet_ok (P := P) w).stay fun ob e => Heap.get?_push_of_some _ e).same fun x => by simp
    case z1 =>
      intro s3 c hc mv T
      obtain ⟨h3, g3, d3, t3, o3⟩ := s3
      obtain ⟨rfl, rfl, rfl⟩ : g3 = s.gens ∧ d3 = s.drawn ∧ o3 = s.os := ⟨mv.gens, mv.drawn, mv.os⟩
      refine wpAny_pure (show wpAny _ _ (ret Value.none) _ _ _ from wpAny_pure ⟨rfl, h3, t3, c, rfl, by rw [len]; exact hc, ?_, fun b o e => ?_⟩)
      · rw [← len, List.take_length] at T; exact T
      · have lb := Heap.lt_size e
        refine mv.heap b o (fun z => ?_) (Heap.get?_push_of_some _ (Heap.get?_push_of_some _ e))
        rcases List.mem_cons.mp z with z | z
        · exact absurd z (Nat.ne_of_lt lb)
        · have z := List.mem_singleton.mp z
          rw [sz1] at z
          exact absurd z (Nat.ne_of_lt (Nat.lt_succ_of_lt lb))
  · rcases r with _ | (_ | _ | _ | u)
    all_goals first | exact z | exact z.elim | skip
    obtain ⟨rfl, h', tk, c, rfl, hc, T, kp⟩ := z
    repeat (any_goals (first | assumption | wp_step))
    exact k h' _ c hc T kp

set_option maxHeartbeats 8000000 in
theorem set_tuple {l : Addr} {items : Array Value} {xs : List Str} {R : Value → Shared → Prop} (hh : A.handled = none) (hl : s.heap.IsTuple l items) (ht : StrsAre items.toList xs) (room : xs.length + 1 < scanBound)
    (k : ∀ (h' : Heap) (tk c : Nat), c ≤ xs.length → SetT P w h' s.heap.objs.size (fun x => decide (x ∈ xs)) c → (∀ b o, s.heap.get? b = some o → h'.get? b = some o) → R (.ref s.heap.objs.size) { s with heap := h', toks := tk }) :
    wpAny (model P w) A (call (.type "set") [.ref l]) R E s := by
  obtain ⟨_, _, mro_⟩ := PySem.F.called_set.mro
  obtain ⟨made_, sub_, nt_, can_, tc_⟩ : _ ∧ _ ∧ _ ∧ _ ∧ _ := ⟨PySem.F.called_set.made, PySem.F.called_set.sub, PySem.F.called_set.notType, PySem.F.called_set.canCreate, PySem.F.typeCall_set_1 (.ref l)⟩
  have atS := Heap.get?_push_size (h := s.heap) (o := eSet w) rfl
  have newS : Shared.TypeIs { s with heap := s.heap.push (eSet w) } (.ref s.heap.objs.size) "set" := ⟨_, atS, rfl⟩
  refine wpAny_call (codeAny_of_tree (show wpAny _ _ (callAny (.type "set") _) _ _ _ from wpAny_pure ⟨Code.quiet_builtin _ (by decide +kernel), codeAny_builtin PySem.F.entry_type_call ?_⟩))
  rw [Around.under_plain (weight_type_call_type "set" [.ref l] []) rfl]
  repeat (any_goals (first | assumption | wp_step))
  refine codeAny_mono (new_one (.ref l) (E := E) (R := fun u s1 => u = .ref s.heap.objs.size ∧ s1 = { s with heap := s.heap.push (eSet w) }) ⟨rfl, rfl⟩) fun r s1 z => ?_
  rcases r with _ | (_ | _ | _ | u)
  all_goals first | exact z | exact z.elim | skip
  obtain ⟨rfl, rfl⟩ := z
  have ini_ := PySem.F.called_set.init.lookup
  have bnd_ := PySem.F.called_set.init.bind (.ref s.heap.objs.size)
  repeat (any_goals (first | assumption | wp_step))
  refine codeAny_mono (codeAny_call_builtin (R := wants (fun u s2 => u = .none ∧ ∃ h' tk c, s2 = { s with heap := h', toks := tk } ∧ c ≤ xs.length ∧ SetT P w h' s.heap.objs.size (fun x => decide (x ∈ xs)) c ∧
    ∀ b o, s.heap.get? b = some o → h'.get? b = some o) E) PySem.F.called_set.init.plain PySem.F.entry_set_init (check_set_init_1 newS ?_)) fun r s2 z => ?_
  · obtain ⟨⟨oc, od, dt, sl⟩, ol, ec, nl, ed⟩ := hl
    dsimp only at ec ed
    subst ec ed
    have ol' : (s.heap.push (eSet w)).get? l = some { cls := .type "tuple", dict := od, data := .seq items nl, slots := sl } := Heap.get?_push_of_some _ ol
    obtain ⟨s1_, s2_⟩ := And.intro PySem.F.sub_tuple_set PySem.F.sub_tuple_frozenset
    have nd_ : (Value.type "tuple" == Value.type "dict") = false := by decide
    have il : (s.heap.push (eSet w)).IsTuple l items := ⟨_, ol', rfl, nl, rfl⟩
    have ll : l < s.heap.objs.size := Heap.lt_size ol
    unfold Builtin.«set.__init__» noKeywords Builtin.Frozenset.updateFrom
    generalize hPI : pyIter = PI
    wp_walk
    subst hPI
    refine wpAny_pyIter_tuple il (wpAny_bind (wpAny_runValue ?_))
    have sz1 : (s.heap.push (eSet w)).objs.size = s.heap.objs.size + 1 := size_push' _ _
    have ne1 : l ≠ (s.heap.push (eSet w)).objs.size := by rw [sz1]; exact Nat.ne_of_lt (Nat.lt_succ_of_lt ll)
    have nf : s.heap.objs.size ∉ [(s.heap.push (eSet w)).objs.size, l] := fun z => by
      rcases List.mem_cons.mp z with z | z
      · rw [sz1] at z; exact absurd z (Nat.ne_of_lt (Nat.lt_succ_self _))
      · exact absurd (List.mem_singleton.mp z) (Nat.ne_of_gt ll)
    have len : xs.length = items.size := by rw [← StrsAre.len_eq ht, Array.length_toList]
    refine fill_loop ((Walks.tuple (show A.in1.in1.in1.handled = none by simp [hh]) _ l ne1 items).toS) s.heap.objs.size nf xs len (by rw [← len]; exact room)
      (fun i v e => SS.strs_at ht i v (by rw [Array.getElem?_toList]; exact e)) (items.size - 0) 0 0 _ (by omega) (Nat.zero_le _) (Nat.zero_le _) ⟨⟨_, Heap.get?_push_size _ rfl, rfl, rfl⟩, il.push _⟩ ?z0 ?z1
    case z0 => exact ((eSet_ok (P := P) w).stay fun ob e => Heap.get?_push_of_some _ e).same fun x => by simp
    case z1 =>
      intro s3 c hc mv T
      obtain ⟨h3, g3, d3, t3, o3⟩ := s3
      obtain ⟨rfl, rfl, rfl⟩ : g3 = s.gens ∧ d3 = s.drawn ∧ o3 = s.os := ⟨mv.gens, mv.drawn, mv.os⟩
      refine wpAny_pure (show wpAny _ _ (ret Value.none) _ _ _ from wpAny_pure ⟨rfl, h3, t3, c, rfl, by rw [len]; exact hc, ?_, fun b o e => ?_⟩)
      · rw [← len, List.take_length] at T; exact T
      · have lb := Heap.lt_size e
        refine mv.heap b o (fun z => ?_) (Heap.get?_push_of_some _ (Heap.get?_push_of_some _ e))
        rcases List.mem_cons.mp z with z | z
        · exact absurd z (Nat.ne_of_lt lb)
        · have z := List.mem_singleton.mp z
          rw [sz1] at z
          exact absurd z (Nat.ne_of_lt (Nat.lt_succ_of_lt lb))
  · rcases r with _ | (_ | _ | _ | u)
    all_goals first | exact z | exact z.elim | skip
    obtain ⟨rfl, h', tk, c, rfl, hc, T, kp⟩ := z
    repeat (any_goals (first | assumption | wp_step))
    exact k h' _ c hc T kp
end
end Txs


namespace Txs
open PySem PySem.Spec PyProof.Rows L2
/-! the set of texts as a tracked thing -/
def SetX (P : Program) (w : World) (a : Addr) (S : Str → Bool) (n : Nat) : HO := .ext fun h => SetT P w h a S n
theorem setX_new {P : Program} {w : World} {H : Hp} {h : Heap} {a : Addr} {S : Str → Bool} {n : Nat} (z : SetT P w h a S n) : ObjOk P w H h a (SetX P w a S n) :=
  ⟨z, let ⟨ob, _, _, _, e, _⟩ := z; ⟨ob, e⟩, fun _ _ q k => SetT.stay q k⟩

/-! order of texts -/
theorem lt_tri (a b : List Nat) : a < b ∨ a = b ∨ b < a := by
  rcases Decidable.em (a < b) with h | h
  · exact .inl h
  · rcases Decidable.em (b < a) with g | g
    · exact .inr (.inr g)
    · exact .inr (.inl (List.le_antisymm (List.not_lt.mp g) (List.not_lt.mp h)))
abbrev leS (a b : Str) : Prop := ¬ b.cps.toList < a.cps.toList
theorem str_ext {a b : Str} (h : a.cps.toList = b.cps.toList) : a = b := by
  cases a; cases b
  congr 1
  exact Array.toList_inj.mp h
theorem leS_anti {a b : Str} (h : leS a b) (g : leS b a) : a = b := by
  rcases lt_tri a.cps.toList b.cps.toList with z | z | z
  · exact absurd z g
  · exact str_ext z
  · exact absurd z h
theorem leS_trans {a b c : Str} (h : leS a b) (g : leS b c) : leS a c := by
  have h' : a.cps.toList ≤ b.cps.toList := List.not_lt.mp h
  have g' : b.cps.toList ≤ c.cps.toList := List.not_lt.mp g
  exact List.not_lt.mpr (List.le_trans h' g')
theorem sorted_pair : ∀ {l : List Str}, sortedS l = true → l.Pairwise leS
  | [], _ => .nil
  | [a], _ => List.pairwise_singleton _ _
  | a :: b :: l, h => by
    have h : (!ltCps b.cps.toList a.cps.toList && sortedS (b :: l)) = true := h
    rw [Bool.and_eq_true] at h
    have ih := sorted_pair h.2
    have hab : leS a b := by
      have := h.1
      rw [ltCps_eq] at this
      simpa using this
    refine List.pairwise_cons.mpr ⟨fun x hx => ?_, ih⟩
    rcases List.mem_cons.mp hx with rfl | hx
    · exact hab
    · exact leS_trans hab ((List.pairwise_cons.mp ih).1 x hx)
theorem perm_pair_eq : ∀ {l r : List Str}, l.Pairwise leS → r.Pairwise leS → l.Perm r → l = r
  | [], r, _, _, p => (List.Perm.nil_eq p)
  | a :: l, [], _, _, p => by simpa using p.length_eq
  | a :: l, b :: r, hl, hr, p => by
    obtain ⟨l1, l2⟩ := List.pairwise_cons.mp hl
    obtain ⟨r1, r2⟩ := List.pairwise_cons.mp hr
    have e : a = b := by
      rcases List.mem_cons.mp (p.mem_iff.mp (List.mem_cons_self (a := a) (l := l))) with z | z
      · exact z
      · rcases List.mem_cons.mp (p.mem_iff.mpr (List.mem_cons_self (a := b) (l := r))) with y | y
        · exact y.symm
        · exact leS_anti (l1 _ y) (r1 _ z)
    subst e
    rw [perm_pair_eq l2 r2 ((List.perm_cons a).mp p)]
/-- ascending, each once: one list alone has just these members -/
def Asc (l : List Str) : Prop := sortedS l = true ∧ l.Nodup
theorem Asc.one {l r : List Str} (h : Asc l) (g : Asc r) (e : ∀ x, x ∈ l ↔ x ∈ r) : l = r :=
  perm_pair_eq (sorted_pair h.1) (sorted_pair g.1) ((List.perm_ext_iff_of_nodup h.2 g.2).mpr e)

section
variable {X : Cx}
theorem setX_get {pins : List (Addr × Obj)} {σ : L2.St} {H : Hp} {s : Shared} {a : Addr} {S : Str → Bool} {n : Nat} (I : Inv X pins σ H s) (ha : H a = some (SetX X.prog X.w a S n)) : SetT X.prog X.w s.heap a S n := (I.hok a _ ha).1

/-! set(xs) -/
def rSetL (K : PySem.W.Frag) (P : Program) (w : World) : List V → Hp → VK → Prop := fun vs H Q => ∃ (l : Addr) (xs : List Str), vs = [.ref l] ∧ (SqL K H l (xs.map V.str) ∨ SqT K H l (xs.map V.str)) ∧ xs.length + 1 < scanBound ∧
  ∀ p c, H p = none → c ≤ xs.length → Q (.ref p) (upd H p (SetX P w p (fun x => decide (x ∈ xs)) c))
theorem cr_setL (hc : X.calm = true) : CallR X (.type "set") (rSetL X.K X.prog X.w) := by
  intro pins s σ H vs us Q I r h
  obtain ⟨l, xs, rfl, hs, room, q⟩ := h
  rw [Vals.ref1 r]
  have fin : ∀ (h' : Heap) (tk c : Nat), c ≤ xs.length → SetT X.prog X.w h' s.heap.objs.size (fun x => decide (x ∈ xs)) c → (∀ b o, s.heap.get? b = some o → h'.get? b = some o) →
      EP X pins σ Q (.ref s.heap.objs.size) { s with heap := h', toks := tk } := fun h' tk c hcn T k =>
    ⟨.ref _, upd H s.heap.objs.size (SetX X.prog X.w s.heap.objs.size (fun x => decide (x ∈ xs)) c), I.laid k (Nat.le_refl _) (setX_new T), rfl, q _ c (I.hok.fresh (Nat.le_refl _)) hcn⟩
  rcases hs with hs | hs
  · obtain ⟨its, rv, pl, _⟩ := I.list hs
    exact set_list (I.ok.hd hc) pl.isList (by simpa using strsAre_of rv) room fin
  · obtain ⟨its, rv, pl, _⟩ := I.tuple hs
    exact set_tuple (I.ok.hd hc) pl (by simpa using strsAre_of rv) room fin

/-! x in found -/
def rInX (P : Program) (w : World) (neg : Bool) : V → V → Hp → VK → Prop := fun x y H Q => ∃ z a S n, x = V.str z ∧ y = V.ref a ∧ H a = some (SetX P w a S n) ∧ Q (.bl (if neg then !S z else S z)) H
theorem op_inX : OpR X (compareOp .In) (rInX X.prog X.w false) := by
  intro pins s σ H x y v u Q I rx ry h
  obtain ⟨z, a, S, n, rfl, rfl, ha, q⟩ := h
  cases ry
  obtain ⟨tk, rfl⟩ := rx
  exact wpAny_inSet_of ((tx_is z tk z).2 rfl) rfl (setX_get I ha).plainSet ⟨.bl (S z), H, I.tok _, rfl, q⟩
theorem op_notInX : OpR X (compareOp .NotIn) (rInX X.prog X.w true) := by
  intro pins s σ H x y v u Q I rx ry h
  obtain ⟨z, a, S, n, rfl, rfl, ha, q⟩ := h
  cases ry
  obtain ⟨tk, rfl⟩ := rx
  exact wpAny_notInSet_of ((tx_is z tk z).2 rfl) rfl (setX_get I ha).plainSet ⟨.bl (!S z), H, I.tok _, rfl, q⟩

/-! sorted(found) -/
def rSortedX (P : Program) (w : World) : List V → Hp → VK → Prop := fun vs H Q => ∃ (a : Addr) (S : Str → Bool) (n : Nat), vs = [V.ref a] ∧ H a = some (SetX P w a S n) ∧ n < 64 ∧
  ∀ (ys : List Str) (p : Addr), Asc ys → (∀ x, x ∈ ys ↔ S x = true) → ys.length = n → H p = none → Q (.ref p) (upd H p (.lst (ys.map V.str)))
theorem txs_of {P : Program} {w : World} : ∀ {l : List (Int × Value)}, (∀ e ∈ l, TxE P w e) → ∀ {vs : List Value}, vs.Perm (l.map (·.2)) → ∃ xs, StrsAre vs xs ∧ xs.Perm (l.map txOf) := fun {l} h {vs} p => by
  have all : ∀ v ∈ vs, ∃ x t, v = Value.str x t := fun v hv => by
    obtain ⟨e, he, q⟩ := List.mem_map.mp (p.mem_iff.mp hv)
    obtain ⟨x, t, rfl⟩ := h e he
    exact ⟨x, t, q.symm⟩
  have g : ∀ (vs : List Value), (∀ v ∈ vs, ∃ x t, v = Value.str x t) → StrsAre vs (vs.map fun v => txOf (0, v)) := by
    intro vs
    induction vs with
    | nil => intro _; exact .nil
    | cons v vs ih =>
      intro k
      obtain ⟨x, t, rfl⟩ := k v List.mem_cons_self
      exact .cons x t (ih fun u hu => k u (List.mem_cons_of_mem _ hu))
  refine ⟨_, g vs all, ?_⟩
  have q := p.map fun v => txOf (0, v)
  rw [List.map_map] at q
  exact q
theorem cr_sortedX (hc : X.calm = true) : CallR X (.builtin "sorted") (rSortedX X.prog X.w) := by
  intro pins s σ H vs us Q I r h
  obtain ⟨a, S, n, rfl, ha, small, q⟩ := h
  obtain ⟨ob, es, ep, t, e, ex, d, T, rfl⟩ := setX_get I ha
  rw [Vals.ref1 r]
  refine Calls.call_function_entry kind_sorted plain_sorted entry_sorted (args_sorted1 _) ?_
  unfold Builtin.«sorted»
  refine wpAny_bind (m := checkCount "sorted" 1 1 _) (wpAny_pure (wpAny_bind (collect_set (A := X.A.in1) (I.ok.hd hc) ⟨ob, e, ex.1, d⟩ T.fits T.few T.rises T.known fun s1 out kp sz gs os pm => ?_)))
  obtain ⟨xs, tx, px⟩ := txs_of T.all pm
  have ol : out.length = es.size := by rw [pm.length_eq, List.length_map, Array.length_toList]
  refine wpAny_bind (wpAny_newList ?_ (by rw [ol, sizeLine_eq]; omega))
  have at1 : (s1.heap.push (seqObj "list" out.toArray 0)).get? s1.heap.objs.size = some (seqObj "list" out.toArray 0) := Heap.get?_push_size _ rfl
  refine wpAny_bind (wpAny_holding (wpAny_call_entry slot_list_sort ⟨_, at1, rfl⟩ entry_list_sort (list_sort_treeK strKind_oneLt at1 tx.keysOf (fun v₁ v₂ rest e' => keyKind_strs (by rw [← e']; exact tx)) (by rw [ol]; exact small) fun st pp so => ⟨_, rfl, ?_⟩) (args_list_sort _)))
  obtain ⟨ys, ty, py, sy⟩ := sorted_out_str tx pp so
  obtain ⟨c, at2⟩ := sortedHeap_at (vs := out) (out := (arrOf st).map (·.2)) at1
  have pk : ys.Perm (es.toList.map txOf) := py.trans px
  have yl : ys.length = es.size := by rw [pk.length_eq, List.length_map, Array.length_toList]
  have kp2 : ∀ b u, s.heap.get? b = some u → (sortedHeap (s1.heap.push (seqObj "list" out.toArray 0)) s1.heap.objs.size out ((arrOf st).map (·.2))).get? b = some u := fun b u z => by
    have z1 := kp b u z
    have lt := Heap.lt_size z1
    rw [sortedHeap_old (Nat.ne_of_lt lt) (by rw [size_push']; exact Nat.lt_succ_of_lt lt)]
    exact Heap.get?_push_of_some _ z1
  have hn : H s1.heap.objs.size = none := I.hok.fresh sz
  refine wpAny_pure ⟨_, rfl, ⟨.ref s1.heap.objs.size, upd H s1.heap.objs.size (.lst (ys.map V.str)), ?_, rfl, q ys _ ⟨sy, pk.nodup_iff.mpr T.once⟩ (fun x => by rw [pk.mem_iff, ← T.just x]) yl hn⟩⟩
  have ok : ObjOk X.prog X.w (upd H s1.heap.objs.size (.lst (ys.map V.str))) (sortedHeap (s1.heap.push (seqObj "list" out.toArray 0)) s1.heap.objs.size out ((arrOf st).map (·.2))) s1.heap.objs.size (.lst (ys.map V.str)) :=
    ⟨by rw [List.length_map, yl, sizeLine_eq]; omega, ((arrOf st).map (·.2)).toList, c, vals_of_strs ty, at2⟩
  exact I.call' (ch := []) os (Un.laid kp2 sz hn) (I.hok.laid kp2 sz ok) (by show AllBare s1.gens; rw [gs]; exact I.bare) (fun _ z => nomatch z)
end
end Txs


namespace Txs
open PySem PySem.Spec PyProof.Rows L2
/-! {elt for target in iter if ..} whose elements are texts -/
/-- how a turn hands its text on: D the set, Nx what follows -/
def inTo (P : Program) (w : World) (D : Addr) (Nx : Hp → Prop) : VK := fun y H => ∃ (x : Str) (S : Str → Bool) (n : Nat), y = .str x ∧ H D = some (SetX P w D S n) ∧ n + 1 < scanBound ∧
  Nx (upd H D (SetX P w D (fun z => S z || decide (z = x)) (if S x = true then n else n + 1)))
def turnX (P : Program) (w : World) (g : TG) (tt : TT) (te : TE) (σ : L2.St) (vs : List Nat) (D : Addr) (Nx : Hp → Prop) (x : V) (H : Hp) : Prop :=
  g x (wipe σ vs) H fun σ2 H2 => wipe σ2 vs = wipe σ vs ∧ tt σ2 H2 fun b H3 => if b = true then te σ2 H3 (inTo P w D Nx) else Nx H3
def tScX (P : Program) (w : World) (wi : TI) (g : TG) (tt : TT) (te : TE) (vs : List Nat) : TE := fun σ H Q => wi σ H fun J H1 => ∀ D, H1 D = none → ∃ W : Nat → Nat → Hp → Prop, (∃ m, W 0 m (upd H1 D (SetX P w D (fun _ => false) 0))) ∧
  ∀ i m H, W i m H → (J.stop i H ∧ Q (.ref D) H) ∨ (J.go i H ∧ ∃ Nx : Hp → Prop, (∀ H', Nx H' → ∃ m', m' < m ∧ W (i + 1) m' H') ∧ ∀ x H', J.yld i H x H' → turnX P w g tt te σ vs D Nx x H')
section
variable {X : Cx}
theorem add_in {pins : List (Addr × Obj)} {σ : L2.St} {H : Hp} {s : Shared} {E : Value → Shared → Prop} {D : Addr} {u : Value} {v : V} {Nx : Hp → Prop} {R : Value → Shared → Prop} (I : Inv X pins σ H s) (r : RelV v u) (h : inTo X.prog X.w D Nx v H)
    (k : ∀ s' H', Inv X pins σ H' s' → Nx H' → R .none s') : wpAny (model X.prog X.w) X.A (call (.builtin "set.add") [.ref D, u]) R E s := by
  obtain ⟨x, S, n, rfl, hD, room, nx⟩ := h
  obtain ⟨tk, rfl⟩ := r
  refine add_call (setX_get I hD) room fun h' sb T => k _ _ (I.write (e := D) (t' := s.toks + 1) (by rw [hD]; trivial) (.inl rfl) (fun b ob ne z => (sb.2 b ne).trans z) ?_ (setX_new T)) nx
  obtain ⟨ob, _, _, _, z, _⟩ := T
  exact ⟨ob, z⟩
theorem pe_scX {elt tg iter : Expr} {ifs : List Expr} {scope : Scope} {own : List (PySem.Str × Nat)} {pos : Pos} {wi : TI} {g : TG} {tt : TT} {te : TE} (hc : X.calm = true) (hN : X.N.Nodup) (hi : PI X tg iter wi) (ok : BlkOk X.N X.env.scope scope own)
    (hg : ∀ s H C cl fp, PG (X.blk s H scope (compEnvC scope cl C X.env) fp) tg g) (ht : ∀ s H C cl fp, PTs (X.blk s H scope (compEnvC scope cl C X.env) fp) ifs tt)
    (he : ∀ s H C cl fp, PE (X.blk s H scope (compEnvC scope cl C X.env) fp) elt te) (hs : ∀ x, foldedSetIterable iter X.env x = pure x := by intro _; rfl) :
    PE X (.SetComp elt [⟨tg, iter, ifs, 0⟩] scope pos) (tScX X.prog X.w wi g tt te (own.map (·.2))) := by
  refine ⟨fun pins s σ H Q I h => ?_⟩
  have frees : ∀ y ∈ scope.names, y.2 = .free → ∃ c, X.env.cells.lookup y.1 = some c := fun y hy e => (ok.free y hy e).elim (fun k => I.ok.has _ (.inl k)) fun k => I.ok.has _ (.inr k)
  rw [PpSet.eval_SetComp]
  refine wpAny_comprehension_free rfl hs (closure_ok frees) ok.kind (fun y hy e => by rw [ok.uniq y hy, e]) (thn (hi.run pins s σ H _ I h) fun xv s1 hx => thn hx fun itv s2 ⟨it, fp, tn, J, H2, e, I2, T, st2, f2, q⟩ => ?_)
  subst e
  refine PpSet.newSet_ok (newEnv_comp ?_)
  generalize hD : s2.heap.objs.size = D
  have Dn : H2 D = none := I2.hok.fresh (Nat.le_of_eq hD)
  obtain ⟨W, ⟨m0, w0⟩, turn⟩ := q D Dn
  -- the state with the new, empty set
  generalize es3 : ({ s2 with heap := s2.heap.push (eSet X.w) } : Shared) = s3
  have hp3 : s3.heap = s2.heap.push (eSet X.w) := by rw [← es3]
  have I3 : Inv X pins σ (upd H2 D (SetX X.prog X.w D (fun _ => false) 0)) s3 := by
    rw [← es3]
    exact I2.laid (t' := s2.toks) (fun b o z => Heap.get?_push_of_some _ z) (Nat.le_of_eq hD) (by rw [← hD]; exact setX_new (eSet_ok X.w))
  have f3 : ∀ b ∈ fp, FpOk X pins (upd H2 D (SetX X.prog X.w D (fun _ => false) 0)) b ∧ b < s3.heap.objs.size := fun b hb => by
    obtain ⟨o, z, _⟩ := T.obj _ _ st2 b hb
    have lt := Heap.lt_size z
    exact ⟨⟨(upd_ne (by rw [← hD]; exact Nat.ne_of_lt lt)).trans (f2 b hb).1, (f2 b hb).2⟩, by rw [hp3, Heap.size_push]; exact Nat.lt_succ_of_lt lt⟩
  have st3 : tn 0 s3.heap := T.keep _ _ _ st2 fun b _ o z => by rw [hp3]; exact Heap.get?_push_of_some _ z
  -- the block's own context
  have I4 := block_start I3 ok hN f3
  generalize hH3 : upd H2 D (SetX X.prog X.w D (fun _ => false) 0) = H3 at I3 I4 w0 f3
  have n3 : ∀ b ∈ fp, H3 b = none := fun b hb => (f3 b hb).1.1
  show codeAny _ _ (.compStart (.SetComp elt [⟨tg, iter, ifs, 0⟩] scope pos) 0 (.ref it) (.ref D) (compEnvC scope (cellsFrom (s3.heap.objs.size + 1) scope.names (cloFrom X.env.cells scope.names [])) s3.heap.objs.size X.env)) (compPost (model X.prog X.w) X.A X.xe none (EP X pins σ Q) (.ref D) s3.heap.objs.size)
    { s3 with heap := pushCells (s3.heap.push { cls := .type "dict", data := .dict #[] }) scope.names }
  have pg := hg s3 H3 s3.heap.objs.size (cellsFrom (s3.heap.objs.size + 1) scope.names (cloFrom X.env.cells scope.names [])) fp
  have pt := ht s3 H3 s3.heap.objs.size (cellsFrom (s3.heap.objs.size + 1) scope.names (cloFrom X.env.cells scope.names [])) fp
  have pe := he s3 H3 s3.heap.objs.size (cellsFrom (s3.heap.objs.size + 1) scope.names (cloFrom X.env.cells scope.names [])) fp
  generalize hce : compEnvC scope (cellsFrom (s3.heap.objs.size + 1) scope.names (cloFrom X.env.cells scope.names [])) s3.heap.objs.size X.env = ce at I4 pg pt pe ⊢
  have cL : ce.locals = s3.heap.objs.size := by rw [← hce]; rfl
  generalize es4 : ({ s3 with heap := pushCells (s3.heap.push { cls := .type "dict", data := .dict #[] }) scope.names } : Shared) = s4 at I4 ⊢
  have st4 : tn 0 s4.heap := T.keep _ _ _ st3 fun b _ o z => by rw [← es4]; exact pushCells_keeps _ _ _ _ (Heap.get?_push_of_some _ z)
  let B : Cx := X.blk s3 H3 scope ce fp
  have fpk : ∀ {σ' : L2.St} {H' : Hp} {s' : Shared}, Inv B [] σ' H' s' → (∀ b ∈ fp, H' b = none) → ∀ b ∈ fp, FpOk B [] H' b := fun I' hn b hb =>
    ⟨hn b hb, (I'.ok.exf b hb).1, I'.ok.exfs b hb, .inl hb, fun x c z => (I'.ok.exf b hb).2 x c z, fun p hp => absurd (show p ∈ ([] : List (Addr × Obj)) ++ [] from hp) (by simp)⟩
  let Z : Nat → Shared → Prop := fun n s' => ∃ i H', Inv B [] (wipe σ (own.map (·.2))) H' s' ∧ tn i s'.heap ∧ (∀ b ∈ fp, H' b = none) ∧ W i n H'
  have loop : codeAny (model X.prog X.w) X.A (.compLoop (.SetComp elt [⟨tg, iter, ifs, 0⟩] scope pos) 0 (.ref it) (.ref D) ce) (compPost (model X.prog X.w) X.A X.xe none (EP X pins σ Q) (.ref D) s3.heap.objs.size) s4 := by
    refine PpSet.compLoopS_any Z ?_ m0 ⟨0, H3, I4, st4, n3, w0⟩
    rintro n s5 ⟨i, H5, I5, st5, n5, w5⟩
    rcases turn i n H5 w5 with ⟨stop, qq⟩ | ⟨go, Nx, hNx, step⟩
    · refine thnF (T.done B rfl rfl rfl hc i [] s5 _ H5 (fun _ _ => False) I5 (fpk I5 n5) st5 stop) fun r s6 ⟨hr, I6⟩ => ?_
      subst hr
      have I7 : Inv X pins σ H5 s6 := I3.call' (ch := fp) I6.os I6.base I6.hok I6.bare fun b hb => let ⟨_, u1, _, u3, u4, u5⟩ := (f3 b hb).1; ⟨u3, u1, u4, u5⟩
      have nC : H5 s3.heap.objs.size = none := by
        rw [← cL]; exact I6.free
      obtain ⟨m, hn, _⟩ := I6.loc
      have hn : s6.heap.Ns s3.heap.objs.size m := by
        rw [← cL]; exact hn
      obtain ⟨k0, k1, k2, k3, k4, k5⟩ := I3.fpOk (Nat.le_refl _) nC
      exact ⟨m, hn, fun h'' sb => ⟨.ref D, H5, I7.turned (t' := s6.toks) (fun b o hb z => (sb.2 b hb).trans z) k0 k1 k3 k4 k5, rfl, qq⟩⟩
    · refine thnF (T.item B rfl rfl rfl hc i [] s5 _ H5 (fun _ _ => False) I5 (fpk I5 n5) st5 go) fun r s6 ⟨u, hr, h6⟩ => ?_
      subst hr
      refine thnF h6 fun _ s7 ⟨x, H7, I7, r7, y7, st7, n7⟩ => ?_
      refine thnF (pg.run _ s7 _ H7 x u _ (I7.pinned (fpk I7 n7) (T.obj _ _ st7)) r7 (step x H7 y7)) fun _ s8 ⟨σ8, H8, I8, w8, q8⟩ => ?_
      refine thnF (pt.run _ s8 σ8 H8 _ I8 q8) fun b s9 ⟨H9, I9, q9⟩ => ?_
      have fin : ∀ (s' : Shared) (H' : Hp), Inv B ([] ++ pinsAt fp s7.heap) σ8 H' s' → Nx H' → ∃ m, m < n ∧ Z m s' := fun s' H' I' nx => by
        obtain ⟨m', lt, w'⟩ := hNx H' nx
        have still : ∀ b ∈ fp, ∀ o, s7.heap.get? b = some o → s'.heap.get? b = some o ∧ H' b = none := fun b hb o z => by
          have y := I'.pin (b, o) (List.mem_append_right _ (List.mem_append_right _ (mem_pinsAt hb z)))
          exact ⟨y.1, y.2.1⟩
        refine ⟨m', lt, i + 1, H', (I'.unpinned (pins := [])).weak (by rw [← w8, wipe_length]) (fun j v z => ?_), T.keep _ _ _ st7 fun b hb o z => (still b hb o z).1, fun b hb => ?_, w'⟩
        · rw [← w8] at z
          exact (wipe_some z).1
        · obtain ⟨o, z, _⟩ := T.obj _ _ st7 b hb
          exact (still b hb o z).2
      cases b
      · exact fin _ _ I9 q9
      · exact thnF (pe.run _ s9 σ8 H9 _ I9 q9) fun z s10 ⟨v, H10, I10, r10, q10⟩ => add_in (X := B) I10 r10 q10 fin
  exact PpSet.codeAny_compStart_set loop (T.self X.A 0 _ _ _ st4 loop)
end
end Txs


/-! A row that is a list or a tuple: walked, numbered, sorted, copied. -/
namespace Txs
open PySem PySem.Spec PyProof.Rows L2
/-- a list or a tuple of xs stands at a -/
def Sq (K : PySem.W.Frag) (H : Hp) (a : Addr) (xs : List V) : Prop := SqL K H a xs ∨ SqT K H a xs
theorem sqL_keep {K : PySem.W.Frag} {H H' : Hp} {a : Addr} {xs : List V} (h : SqL K H a xs) (k : ∀ o, H a = some o → H' a = some o) : SqL K H' a xs := by
  rcases h with (h | ⟨o, h⟩) | h
  · exact .inl (.inl (k _ h))
  · exact .inl (.inr ⟨o, k _ h⟩)
  · exact .inr h
theorem sqT_keep {K : PySem.W.Frag} {H H' : Hp} {a : Addr} {xs : List V} (h : SqT K H a xs) (k : ∀ o, H a = some o → H' a = some o) : SqT K H' a xs := by
  rcases h with (h | ⟨o, h⟩) | h
  · exact .inl (.inl (k _ h))
  · exact .inl (.inr ⟨o, k _ h⟩)
  · exact .inr h
theorem Sq.keep {K : PySem.W.Frag} {H H' : Hp} {a : Addr} {xs : List V} (h : Sq K H a xs) (k : ∀ o, H a = some o → H' a = some o) : Sq K H' a xs := h.imp (fun h => sqL_keep h k) fun h => sqT_keep h k
theorem Sq.same {K : PySem.W.Frag} {H H' : Hp} {a : Addr} {xs : List V} (h : Sq K H a xs) (k : Same H H') : Sq K H' a xs := h.keep fun o e => k _ _ e
/-! ### for x in xs -/
def iSeq (K : PySem.W.Frag) (tl : TE) : TI := fun σ H R => tl σ H fun x H1 => ∃ a, x = .ref a ∧ (((∃ xs, SqL K H1 a xs) ∧ R (Itl K a) H1) ∨ ((∃ xs, SqT K H1 a xs) ∧ R (Itt K a) H1))
section
variable {X : Cx} {tg : Expr}
theorem pi_seq {l : Expr} {tl : TE} (hl : PE X l tl) : PI X tg l (iSeq X.K tl) := by
  refine ⟨fun pins s σ H R I h => thn (hl.run pins s σ H _ I h) fun v s1 ⟨x, H1, I1, r1, a, ex, q⟩ => ?_⟩
  subst ex
  cases r1
  have fp : ∀ b ∈ [s1.heap.objs.size], FpOk X pins H1 b := fun b hb => by
    rw [List.mem_singleton.mp hb]
    exact I1.fpOk (Nat.le_refl _) (I1.hok.fresh (Nat.le_refl _))
  rcases q with ⟨⟨xs, hq⟩, q⟩ | ⟨⟨xs, hq⟩, q⟩
  · obtain ⟨its, _, pl, _⟩ := I1.list hq
    exact wpAny_pyIter_list pl.isList ⟨_, [_], _, _, H1, rfl, I1.kept (t' := s1.toks) fun b o e => Heap.get?_push_of_some _ e, turn_list a _, ⟨_, Heap.get?_push_size _ rfl, rfl, rfl⟩, fp, q⟩
  · obtain ⟨its, _, pl, _⟩ := I1.tuple hq
    exact wpAny_pyIter_tuple (show s1.heap.IsTuple a its.toArray from pl) ⟨_, [_], _, _, H1, rfl, I1.kept (t' := s1.toks) fun b o e => Heap.get?_push_of_some _ e, turn_tuple a _, ⟨_, Heap.get?_push_size _ rfl, rfl, rfl⟩, fp, q⟩
end
/-! ### for i, x in enumerate(tuple) -/
def ItE (K : PySem.W.Frag) (a : Addr) : It :=
  ⟨fun i H => ∃ xs x, SqT K H a xs ∧ xs[i]? = some x, fun i H v H' => ∃ T x, v = .ref T ∧ H T = none ∧ H' = upd H T (.tup [.int (i : Nat), x]) ∧ ∀ xs, SqT K H a xs → xs[i]? = some x, fun i H => ∃ xs, SqT K H a xs ∧ xs.length = i⟩
set_option maxHeartbeats 1000000 in
theorem meets_enum1 {v : Value} {o : Obj} {Z : Heap → Prop} (B : Begins v o Z) : Meets (Builtin.«enumerate.__new__» ⟨[.type "enumerate", v], []⟩) (fun _ R s => Z s.heap ∧
    R (.ok (.ret (.ref (s.heap.push o).objs.size))) { s with heap := (s.heap.push o).push { cls := .type "enumerate", data := .fields #[.none, .bool false, .ref s.heap.objs.size, rawInt 0, .none, .none] } }) :=
  .of_wp fun prog w A R s ⟨z, h⟩ => by
    obtain ⟨hp, g, d, tk, os⟩ := s
    have sub_ := sub_enumerate
    have it_ : ∀ {A' : Around} {E : Value → Shared → Prop} {Q : Value → Shared → Prop}, Q (.ref hp.objs.size) ⟨hp.push o, g, d, tk, os⟩ → wpAny (model prog w) A' (pyIter v) Q E ⟨hp, g, d, tk, os⟩ := fun q => B.iter prog w _ _ ⟨hp, g, d, tk, os⟩ _ z q
    wp_walk using it_
    refine wpAny_stack_any fun st => wpAny_pure ?_
    split
    · rename_i c _ _ _ _ _
      cases (c == Value.type "enumerate") <;>
      · wp_walk using it_
        exact ⟨_, rfl, h⟩
    · wp_walk using it_
      exact ⟨_, rfl, h⟩
section
variable {P : Program} {w : World} {A : Around} {E : Value → Shared → Prop} {s : Shared}
theorem call_enum1 {v : Value} {o : Obj} {Z : Heap → Prop} {Q : Value → Shared → Prop} (B : Begins v o Z) (z : Z s.heap)
    (k : ∀ h', IsEnum h' (s.heap.objs.size + 1) s.heap.objs.size 0 .none → h'.get? s.heap.objs.size = some o → (∀ b u, s.heap.get? b = some u → h'.get? b = some u) → Q (.ref (s.heap.objs.size + 1)) { s with heap := h' }) :
    wpAny (model P w) A (call (.type "enumerate") [v]) Q E s := by
  have sz : (s.heap.push o).objs.size = s.heap.objs.size + 1 := Heap.size_push ..
  refine callType_new F.called_enumerate (by decide) (F.typeCall_enumerate_1 _) (F.newCall_enumerate_1 _) (fun obj => F.args_object_init_2 obj _) F.entry_enumerate_new (meets_enum1 B) ⟨z, show _ ∧ _ from ?_⟩
  have he : IsEnum ((s.heap.push o).push { cls := .type "enumerate", data := .fields #[.none, .bool false, .ref s.heap.objs.size, rawInt 0, .none, .none] }) (s.heap.objs.size + 1) s.heap.objs.size 0 .none := by
    rw [← sz]
    exact Heap.get?_push_size _ rfl
  rw [sz]
  exact ⟨⟨_, he, rfl⟩, k _ he (Heap.get?_push_of_some _ (Heap.get?_push_size _ B.free)) fun b u e => Heap.get?_push_of_some _ (Heap.get?_push_of_some _ e)⟩
end
theorem turn_enumT {P : Program} {w : World} {K : PySem.W.Frag} {elts : List Expr} {kk : Nat} {tpos : Pos} (a e it : Addr) :
    Turn P w K (.Tuple elts kk tpos) (ItE K a) [e, it] e (fun i h => (∃ old, IsEnum h e it ((i : Nat) : Int) old) ∧ h.IsTupleIter it a i ∧ e ≠ it ∧ a ≠ it ∧ e ≠ a) where
  mem := by simp
  obj := fun i h ⟨⟨old, he⟩, ⟨o, ho, _, hd⟩, _⟩ b hb => by
    rcases List.mem_cons.mp hb with rfl | hb
    · exact ⟨_, he, fun v q => nomatch q⟩
    · rw [List.mem_singleton.mp hb]
      exact ⟨o, ho, fun v q => by rw [hd] at q; cases q⟩
  keep := fun i h h' ⟨⟨old, he⟩, hi, n⟩ k => ⟨⟨old, k e (by simp) _ he⟩, hi.at fun o q => k it (by simp) o q, n⟩
  item := by
    rintro X rfl rfl rfl hc i pins s σ H E I hf ⟨⟨old, he⟩, hit, n1, n2, n3⟩ ⟨xs, x, hq, hx⟩
    obtain ⟨its, rv, pt, _⟩ := I.tuple hq
    obtain ⟨u, hu, ru⟩ := rv.get hx
    have ht : s.heap.IsTuple a its.toArray := pt
    have lt : i < its.toArray.size := by
      have := (List.getElem?_eq_some_iff.mp hu).1
      simpa using this
    have W := WalksT.enumFrom (prog := X.prog) (w := X.w) (A := X.A) 0 (Draws.tuple (show X.A.in1.handled = none from I.ok.hd hc) it a n2 its.toArray) e n1 (by simp [n1, n3]) (by simp)
    refine W.item i s _ _ lt ⟨⟨old, by rw [Int.zero_add]; exact he⟩, hit, ht⟩ fun T vals h' tk ⟨t, y, hy, ev⟩ sz isT mid kp => ⟨_, rfl, W.go elts kk tpos i T _ _ _ mid fun h2 ⟨⟨old2, he2⟩, hit2, _⟩ kp2 => ?_⟩
    subst ev
    have ey : y = u := by
      have hy : its.toArray[i]? = some y := hy
      rw [List.getElem?_toArray, hu] at hy
      exact (Option.some.inj hy).symm
    subst ey
    have kk2 : ∀ b o, b ∉ [e, it] → s.heap.get? b = some o → h2.get? b = some o := fun b o nb q => kp2 b o nb (kp b o nb q)
    have isT2 : IsTup h2 T #[.int (0 + (i : Int)) t, y] := isT.at fun o q => kp2 T o (W.apart i T h' mid) q
    have new : ObjOk X.prog X.w (upd H T (.tup [.int (i : Nat), x])) h2 T (.tup [.int (i : Nat), x]) :=
      ⟨by show 2 ≤ sizeLine; decide, [.int (0 + (i : Int)) t, y], .cons ⟨t, by rw [Int.zero_add]⟩ (.cons ru .nil), isT2⟩
    have I2 := I.turnedNew (t' := tk) (ch := [e, it]) kk2 hf sz new
    have lts : ∀ b ∈ [e, it], b < s.heap.objs.size := fun b hb => by
      rcases List.mem_cons.mp hb with rfl | hb
      · exact Heap.lt_size he
      · rw [List.mem_singleton.mp hb]
        obtain ⟨_, q, _⟩ := hit
        exact Heap.lt_size q
    refine ⟨.ref T, _, I2, rfl, ⟨T, x, rfl, I.hok.fresh sz, rfl, fun ys hy => by rw [I.tuple_inj hy hq]; exact hx⟩, ⟨⟨old2, ?_⟩, hit2, n1, n2, n3⟩, fun b hb => ?_⟩
    · have e1 : ((i + 1 : Nat) : Int) = 0 + ((i + 1 : Nat) : Int) := by omega
      rw [e1]; exact he2
    · rw [upd_ne (Nat.ne_of_lt (Nat.lt_of_lt_of_le (lts b hb) sz))]
      exact (hf b hb).1
  done := by
    rintro X rfl rfl rfl hc i pins s σ H E I hf ⟨⟨old, he⟩, hit, n1, n2, n3⟩ ⟨xs, hq, hx⟩
    obtain ⟨its, rv, pt, _⟩ := I.tuple hq
    have ht : s.heap.IsTuple a its.toArray := pt
    have n : i = its.toArray.size := by rw [← hx, rv.length, List.size_toArray]
    have W := WalksT.enumFrom (prog := X.prog) (w := X.w) (A := X.A) 0 (Draws.tuple (show X.A.in1.handled = none from I.ok.hd hc) it a n2 its.toArray) e n1 (by simp [n1, n3]) (by simp)
    refine W.done s _ _ ⟨⟨old, by rw [Int.zero_add, ← n]; exact he⟩, by rw [← n]; exact hit, ht⟩ fun h' tk kp => ⟨rfl, I.turnedL (t' := tk) (ch := [e, it]) kp hf⟩
  self := fun A i s Q E ⟨⟨_, he⟩, _⟩ h => wpAny_pyIter_enum he h
def iEnS (K : PySem.W.Frag) (ta : TA) : TI := fun σ H R => ta σ H fun vs H1 => ∃ a, vs = [.ref a] ∧ (((∃ xs, SqL K H1 a xs) ∧ R (Ite K a) H1) ∨ ((∃ xs, SqT K H1 a xs) ∧ R (ItE K a) H1))
theorem pi_enumS {X : Cx} {e : Expr} {ta : TA} {p pos tpos : Pos} {elts : List Expr} {kk : Nat} (hg : Gl X "enumerate") (hm : X.mg "enumerate" = none) (ha : PA X [e] ta) (hs : starEach [e] X.env = [(false, eval e X.env)] := by rfl) :
    PI X (.Tuple elts kk tpos) (.Call (.Name "enumerate" p) [e] [] pos) (iEnS X.K ta) := by
  refine ⟨fun pins s σ H R I h => Call_ (ld_blt I hg hm boot_enumerate (PyProof.Rows.callWith_type1 (thn (ha.run pos pins s σ H _ I h) fun us s1 ⟨vs, H1, I1, r1, a, ex, q⟩ => ?_) hs rfl))⟩
  subst ex
  rw [Vals.ref1 r1]
  have fp : ∀ b ∈ [s1.heap.objs.size + 1, s1.heap.objs.size], FpOk X pins H1 b := fun b hb => by
    have le : s1.heap.objs.size ≤ b := by
      rcases List.mem_cons.mp hb with rfl | hb
      · exact Nat.le_add_right _ _
      · rw [List.mem_singleton.mp hb]; exact Nat.le_refl _
    exact I1.fpOk le (I1.hok.fresh le)
  rcases q with ⟨⟨xs, hq⟩, q⟩ | ⟨⟨xs, hq⟩, q⟩
  · obtain ⟨its, _, pl, _⟩ := I1.list hq
    exact call_enumerate_list pl.isList fun h' he hit _ kp => wpAny_pyIter_enum he ⟨_, [_, _], _, _, H1, rfl, I1.kept (t' := s1.toks) kp, turn_enum a _ _, ⟨⟨.none, he⟩, hit, Nat.succ_ne_self _⟩, fp, q⟩
  · obtain ⟨its, _, pt, _⟩ := I1.tuple hq
    have ht : s1.heap.IsTuple a its.toArray := pt
    have lt : a < s1.heap.objs.size := by
      obtain ⟨o, e, _⟩ := id ht
      exact Heap.lt_size e
    exact call_enum1 (begins_tuple a its.toArray) ht fun h' he hit kp => wpAny_pyIter_enum he ⟨_, [_, _], _, _, H1, rfl, I1.kept (t' := s1.toks) kp, turn_enumT a _ _,
      ⟨⟨.none, he⟩, ⟨_, hit, rfl, rfl⟩, Nat.succ_ne_self _, Nat.ne_of_lt lt, Nat.ne_of_gt (Nat.lt_succ_of_lt lt)⟩, fp, q⟩
/-! ### the loops -/
section
variable {K : PySem.W.Frag} {a : Addr} {xs : List V} {g : TG} {tb : TS} {D : Ends} {σ : L2.St} {H H0 : Hp}
/-- what a for over the walk J asks -/
def Loop (J : It) (g : TG) (tb : TS) (D : Ends) (σ : L2.St) (H : Hp) : Prop := ∃ W : Nat → Nat → L2.St → Hp → Prop, (∃ m, W 0 m σ H) ∧ ∀ i m σ H, W i m σ H →
  (J.stop i H ∧ D.nx σ H) ∨ (J.go i H ∧ ∃ N : L2.St → Hp → Prop, (∀ σ' H', N σ' H' → ∃ m', m' < m ∧ W (i + 1) m' σ' H') ∧ ∀ x H', J.yld i H x H' → g x σ H' fun σ2 H2 => tb { D with nx := N, ct := N, bk := D.nx } σ2 H2)
theorem for_seq (k : Sq K H0 a xs) (Pv : Nat → L2.St → Hp → Prop) (h0 : Pv 0 σ H) (hl : ∀ i σ' H', i ≤ xs.length → Pv i σ' H' → ∀ o, H0 a = some o → H' a = some o)
    (hs : ∀ i x σ H, xs[i]? = some x → Pv i σ H → g x σ H fun σ2 H2 => tb { D with nx := Pv (i + 1), ct := Pv (i + 1), bk := D.nx } σ2 H2) (hd : ∀ σ H, Pv xs.length σ H → D.nx σ H) :
    ((∃ xs, SqL K H a xs) ∧ Loop (Itl K a) g tb D σ H) ∨ ((∃ xs, SqT K H a xs) ∧ Loop (Itt K a) g tb D σ H) := by
  rcases k with k | k
  · exact .inl ⟨⟨_, sqL_keep k (hl 0 σ H (Nat.zero_le _) h0)⟩, for_list Pv h0 (fun i σ' H' hi p => sqL_keep k (hl i σ' H' hi p)) hs hd⟩
  · exact .inr ⟨⟨_, sqT_keep k (hl 0 σ H (Nat.zero_le _) h0)⟩, for_tup Pv h0 (fun i σ' H' hi p => sqT_keep k (hl i σ' H' hi p)) hs hd⟩
theorem for_enum (k : Sq K H0 a xs) (Pv : Nat → L2.St → Hp → Prop) (h0 : Pv 0 σ H) (hl : ∀ i σ' H', i ≤ xs.length → Pv i σ' H' → ∀ o, H0 a = some o → H' a = some o)
    (hs : ∀ i x σ H T, xs[i]? = some x → Pv i σ H → H T = none → g (.ref T) σ (upd H T (.tup [.int (i : Nat), x])) fun σ2 H2 => tb { D with nx := Pv (i + 1), ct := Pv (i + 1), bk := D.nx } σ2 H2) (hd : ∀ σ H, Pv xs.length σ H → D.nx σ H) :
    ((∃ xs, SqL K H a xs) ∧ Loop (Ite K a) g tb D σ H) ∨ ((∃ xs, SqT K H a xs) ∧ Loop (ItE K a) g tb D σ H) := by
  rcases k with k | k
  · refine .inl ⟨⟨_, sqL_keep k (hl 0 σ H (Nat.zero_le _) h0)⟩, fun i m σ H => m = xs.length - i ∧ i ≤ xs.length ∧ Pv i σ H, ⟨xs.length, by simp, Nat.zero_le _, h0⟩, ?_⟩
    rintro i m σ H ⟨rfl, hi, p⟩
    have q := sqL_keep k (hl i σ H hi p)
    by_cases lt : i < xs.length
    · refine .inr ⟨⟨xs, xs[i], q, by simp [lt]⟩, Pv (i + 1), fun σ' H' p' => ⟨_, by omega, rfl, lt, p'⟩, ?_⟩
      rintro x H' ⟨T, y, rfl, n, rfl, e⟩
      exact hs i y σ H T (e xs q) p n
    · obtain rfl : i = xs.length := by omega
      exact .inl ⟨⟨xs, q, Nat.le_refl _⟩, hd σ H p⟩
  · refine .inr ⟨⟨_, sqT_keep k (hl 0 σ H (Nat.zero_le _) h0)⟩, fun i m σ H => m = xs.length - i ∧ i ≤ xs.length ∧ Pv i σ H, ⟨xs.length, by simp, Nat.zero_le _, h0⟩, ?_⟩
    rintro i m σ H ⟨rfl, hi, p⟩
    have q := sqT_keep k (hl i σ H hi p)
    by_cases lt : i < xs.length
    · refine .inr ⟨⟨xs, xs[i], q, by simp [lt]⟩, Pv (i + 1), fun σ' H' p' => ⟨_, by omega, rfl, lt, p'⟩, ?_⟩
      rintro x H' ⟨T, y, rfl, n, rfl, e⟩
      exact hs i y σ H T (e xs q) p n
    · obtain rfl : i = xs.length := by omega
      exact .inl ⟨⟨xs, q, rfl⟩, hd σ H p⟩
end
section
variable {K : PySem.W.Frag} {a : Addr} {xs : List V} {g : TG} {tt : TT} {te : TE} {vs : List Nat} {σ : L2.St} {H H0 : Hp} {Q : Addr → Hp → Prop}
def LcOf (J : It) (g : TG) (tt : TT) (te : TE) (vs : List Nat) (σ : L2.St) (H : Hp) (Q : Addr → Hp → Prop) : Prop := ∀ D, H D = none → ∃ W : Nat → Nat → Hp → Prop, (∃ m, W 0 m (upd H D (.lst []))) ∧ ∀ i m H, W i m H →
  (J.stop i H ∧ Q D H) ∨ (J.go i H ∧ ∃ Nx : Hp → Prop, (∀ H', Nx H' → ∃ m', m' < m ∧ W (i + 1) m' H') ∧ ∀ x H', J.yld i H x H' → g x (wipe σ vs) H' fun σ2 H2 => wipe σ2 vs = wipe σ vs ∧ tt σ2 H2 fun b H3 =>
    if b = true then te σ2 H3 fun y H4 => ∃ acc, H4 D = some (.lst acc) ∧ acc.length < sizeLine ∧ Nx (upd H4 D (.lst (acc ++ [y]))) else Nx H3)
theorem lc_seq (k : Sq K H0 a xs) (hb : ∀ o, H0 a = some o → H a = some o) (Pv : Addr → Nat → Hp → Prop) (h0 : ∀ D, H D = none → Pv D 0 (upd H D (.lst []))) (hl : ∀ D i H', H D = none → i ≤ xs.length → Pv D i H' → ∀ o, H0 a = some o → H' a = some o)
    (hs : ∀ D i x H', H D = none → xs[i]? = some x → Pv D i H' → g x (wipe σ vs) H' fun σ2 H2 => wipe σ2 vs = wipe σ vs ∧ tt σ2 H2 fun b H3 =>
      if b = true then te σ2 H3 fun y H4 => ∃ acc, H4 D = some (.lst acc) ∧ acc.length < sizeLine ∧ Pv D (i + 1) (upd H4 D (.lst (acc ++ [y]))) else Pv D (i + 1) H3) (hd : ∀ D H', H D = none → Pv D xs.length H' → Q D H') :
    ((∃ xs, SqL K H a xs) ∧ LcOf (Itl K a) g tt te vs σ H Q) ∨ ((∃ xs, SqT K H a xs) ∧ LcOf (Itt K a) g tt te vs σ H Q) := by
  rcases k with k | k
  · exact .inl ⟨⟨_, sqL_keep k hb⟩, fun D hD => lc_list (Pv D) (h0 D hD) (fun i H' hi p => sqL_keep k (hl D i H' hD hi p)) (fun i x H' e p => hs D i x H' hD e p) fun H' p => hd D H' hD p⟩
  · exact .inr ⟨⟨_, sqT_keep k hb⟩, fun D hD => lc_tup (Pv D) (h0 D hD) (fun i H' hi p => sqT_keep k (hl D i H' hD hi p)) (fun i x H' e p => hs D i x H' hD e p) fun H' p => hd D H' hD p⟩
def ScOf (P : Program) (w : World) (J : It) (g : TG) (tt : TT) (te : TE) (vs : List Nat) (σ : L2.St) (H : Hp) (Q : Addr → Hp → Prop) : Prop := ∀ D, H D = none → ∃ W : Nat → Nat → Hp → Prop, (∃ m, W 0 m (upd H D (SetX P w D (fun _ => false) 0))) ∧
  ∀ i m H, W i m H → (J.stop i H ∧ Q D H) ∨ (J.go i H ∧ ∃ Nx : Hp → Prop, (∀ H', Nx H' → ∃ m', m' < m ∧ W (i + 1) m' H') ∧ ∀ x H', J.yld i H x H' → turnX P w g tt te σ vs D Nx x H')
theorem sc_seq {P : Program} {w : World} (k : Sq K H0 a xs) (hb : ∀ o, H0 a = some o → H a = some o) (Pv : Addr → Nat → Hp → Prop) (h0 : ∀ D, H D = none → Pv D 0 (upd H D (SetX P w D (fun _ => false) 0))) (hl : ∀ D i H', H D = none → i ≤ xs.length → Pv D i H' → ∀ o, H0 a = some o → H' a = some o)
    (hs : ∀ D i x H', H D = none → xs[i]? = some x → Pv D i H' → turnX P w g tt te σ vs D (Pv D (i + 1)) x H') (hd : ∀ D H', H D = none → Pv D xs.length H' → Q D H') :
    ((∃ xs, SqL K H a xs) ∧ ScOf P w (Itl K a) g tt te vs σ H Q) ∨ ((∃ xs, SqT K H a xs) ∧ ScOf P w (Itt K a) g tt te vs σ H Q) := by
  rcases k with k | k
  · refine .inl ⟨⟨_, sqL_keep k hb⟩, fun D hD => ⟨fun i m H' => m = xs.length - i ∧ i ≤ xs.length ∧ Pv D i H', ⟨xs.length, by simp, Nat.zero_le _, h0 D hD⟩, ?_⟩⟩
    rintro i m H' ⟨rfl, hi, p⟩
    have q := sqL_keep k (hl D i H' hD hi p)
    by_cases lt : i < xs.length
    · refine .inr ⟨⟨xs, xs[i], q, by simp [lt]⟩, Pv D (i + 1), fun H'' p' => ⟨_, by omega, rfl, lt, p'⟩, ?_⟩
      rintro x _ ⟨rfl, e⟩
      exact hs D i x _ hD (e xs q) p
    · obtain rfl : i = xs.length := by omega
      exact .inl ⟨⟨xs, q, Nat.le_refl _⟩, hd D H' hD p⟩
  · refine .inr ⟨⟨_, sqT_keep k hb⟩, fun D hD => ⟨fun i m H' => m = xs.length - i ∧ i ≤ xs.length ∧ Pv D i H', ⟨xs.length, by simp, Nat.zero_le _, h0 D hD⟩, ?_⟩⟩
    rintro i m H' ⟨rfl, hi, p⟩
    have q := sqT_keep k (hl D i H' hD hi p)
    by_cases lt : i < xs.length
    · refine .inr ⟨⟨xs, xs[i], q, by simp [lt]⟩, Pv D (i + 1), fun H'' p' => ⟨_, by omega, rfl, lt, p'⟩, ?_⟩
      rintro x _ ⟨rfl, e⟩
      exact hs D i x _ hD (e xs q) p
    · obtain rfl : i = xs.length := by omega
      exact .inl ⟨⟨xs, q, Nat.le_refl _⟩, hd D H' hD p⟩
end
end Txs


namespace Txs
open PySem PySem.Spec PyProof.Rows L2
section
variable {P : Program} {w : World} {A : Around} {E : Value → Shared → Prop} {s : Shared}
/-- a tuple's items, collected -/
theorem collect_tup {l : Addr} {vs : List Value} {Q : List Value → Shared → Prop} (hl : s.heap.IsTuple l vs.toArray) (sz : vs.length ≤ sizeLine)
    (k : Q vs { s with heap := (s.heap.push (seqObj "list" #[] 0)).update s.heap.objs.size (Obj.mapSeq (· ++ vs.toArray)) }) : wpAny (model P w) A (collect (.ref l)) Q E s := by
  obtain ⟨ob, e, c, n, d⟩ := hl
  have e1 : (s.heap.push (seqObj "list" #[] 0)).get? l = some ob := Heap.get?_push_of_some _ e
  have eN := Heap.get?_push_size (h := s.heap) (o := seqObj "list" #[] 0) rfl
  unfold collect
  refine wpAny_bind (wpAny_runValue (codeAny_builtin entry_proto_collect' (show wpAny _ _ (do again (.builtin "list.__iadd__" ⟨[← newList [], .ref l], []⟩)) _ _ s from wpAny_bind (wpAny_newList (wpAny_pure ⟨Code.quiet_builtin _ (by decide +kernel), codeAny_builtin entry_list_iadd' ?_⟩)))))
  show wpAny _ _ (Builtin.List.listExtendWith (.ref s.heap.objs.size) (.ref l) (.ref s.heap.objs.size)) _ _ { s with heap := s.heap.push (seqObj "list" #[] 0) }
  unfold Builtin.List.listExtendWith
  refine wpAny_bind (wpAny_typeOf (T := "tuple") ⟨ob, e1, c⟩ ?_)
  rw [if_pos (by rw [show (Value.type "tuple" == Value.type "tuple") = true from rfl]; simp)]
  refine wpAny_bind (listItems_at e1 d (wpAny_bind (listItems_at (xs := #[]) (n := 0) eN rfl ?_)))
  rw [if_neg (by simp)]
  refine wpAny_bind (listUpdate_at (xs := #[]) (n := 0) eN rfl (wpAny_pure ?_) (Nat.zero_le _) (by show (#[] ++ vs.toArray).size ≤ sizeLine + 1; simp only [Array.size_append, List.size_toArray, List.length_nil]; omega))
  refine (show wpAny (model P w) A (do
    let o ← load s.heap.objs.size
    match o.data with
    | .seq xs _ => pure xs.toList
    | _ => unsupported "internal:collect") Q E { s with heap := (s.heap.push (seqObj "list" #[] 0)).update s.heap.objs.size (Obj.mapSeq (· ++ vs.toArray)) } from wpAny_bind (wpAny_load (get?_update_seq eN _) ?_))
  refine (show wpAny _ _ (pure ((#[] : Array Value) ++ vs.toArray).toList) Q E _ from ?_)
  rw [show ((#[] : Array Value) ++ vs.toArray).toList = vs by simp]
  exact wpAny_pure k
theorem sorted_tup {l : Addr} {vs : List Value} {ns : List Int} {Q : Value → Shared → Prop} (hl : s.heap.IsTuple l vs.toArray) (hI : IntsAre vs ns) (small : vs.length < 64)
    (k : ∀ (out : Array Value) (ns' : List Int), IntsAre out.toList ns' → ns'.Perm ns → ns'.Pairwise (· ≤ ·) → Q (.ref (s.heap.objs.size + 1)) { s with heap := sortedAll s.heap vs out }) :
    wpAny (model P w) A (call (.builtin "sorted") [.ref l]) Q E s := by
  refine Calls.call_function_entry kind_sorted plain_sorted entry_sorted (args_sorted1 _) ?_
  unfold Builtin.«sorted»
  refine wpAny_bind (m := checkCount "sorted" 1 1 _) (wpAny_pure (wpAny_bind (collect_tup hl (by rw [sizeLine_eq]; omega) (wpAny_bind (wpAny_newList ?_)))))
  have sz : ((s.heap.push (seqObj "list" #[] 0)).update s.heap.objs.size (Obj.mapSeq (· ++ vs.toArray))).objs.size = s.heap.objs.size + 1 := by rw [Heap.size_update, size_push']
  have eN : (((s.heap.push (seqObj "list" #[] 0)).update s.heap.objs.size (Obj.mapSeq (· ++ vs.toArray))).push (seqObj "list" vs.toArray 0)).get? (s.heap.objs.size + 1) = some (seqObj "list" vs.toArray 0) := by
    rw [← sz]; exact Heap.get?_push_size _ rfl
  refine (show wpAny _ _ _ _ _ { s with heap := ((s.heap.push (seqObj "list" #[] 0)).update s.heap.objs.size (Obj.mapSeq (· ++ vs.toArray))).push (seqObj "list" vs.toArray 0) } from ?_)
  rw [sz]
  exact wpAny_bind (wpAny_holding (wpAny_call_entry slot_list_sort ⟨_, eN, rfl⟩ entry_list_sort (list_sort_tree eN hI small fun out ns' a1 a2 a3 => ⟨_, rfl, wpAny_pure ⟨_, rfl, k out ns' a1 a2 a3⟩⟩) (args_list_sort _)))
end
/-- sorted(xs): ints, a list or a tuple -/
def rSortQ (K : PySem.W.Frag) : List V → Hp → VK → Prop := fun vs H Q => ∃ (a : Addr) (ns : List Int), vs = [V.ref a] ∧ Sq K H a (ns.map V.int) ∧ ns.length < 64 ∧
  ∀ (ns' : List Int) (p : Addr), ns'.Perm ns → ns'.Pairwise (· ≤ ·) → H p = none → Q (.ref p) (upd H p (.lst (ns'.map V.int)))
theorem cr_sortQ {X : Cx} : CallR X (.builtin "sorted") (rSortQ X.K) := by
  intro pins s σ H vs us Q I r h
  obtain ⟨a, ns, rfl, hs | hs, small, q⟩ := h
  · exact cr_sorted pins s σ H [.ref a] us Q I r ⟨a, ns, rfl, hs, small, q⟩
  · obtain ⟨its, rv, pt, _⟩ := I.tuple hs
    rw [Vals.ref1 r]
    have len := rv.length
    rw [List.length_map] at len
    refine sorted_tup (show s.heap.IsTuple a its.toArray from pt) rv.ints (by rw [← len]; exact small) fun out ns' h1 h2 h3 => ?_
    obtain ⟨ep, he⟩ := sortedAll_at s.heap its out
    have hlen : (ns'.map V.int).length ≤ sizeLine := by rw [List.length_map, h2.length_eq, sizeLine_eq]; omega
    exact ⟨.ref _, upd H (s.heap.objs.size + 1) (.lst (ns'.map V.int)), I.laid (t' := s.toks) (fun _ _ => sortedAll_old) (Nat.le_succ _) ⟨hlen, out.toList, ep, vals_of_ints h1, he⟩, rfl, q ns' _ h2 h3 (I.hok.fresh (Nat.le_succ _))⟩
/-- for c in text -/
theorem for_strN {x : PySem.Str} {g : TG} {tb : TS} {D : Ends} {σ : L2.St} {H : Hp} (Pv : Nat → L2.St → Hp → Prop) (h0 : Pv 0 σ H)
    (hs : ∀ i c σ H, x.cps.toList[i]? = some c → Pv i σ H → g (.str ⟨#[c]⟩) σ H fun σ2 H2 => tb { D with nx := Pv (i + 1), ct := Pv (i + 1), bk := D.nx } σ2 H2) (hd : ∀ σ H, Pv x.cps.toList.length σ H → D.nx σ H) : Loop (Its x) g tb D σ H := by
  refine ⟨fun i m σ H => m = x.cps.toList.length - i ∧ i ≤ x.cps.toList.length ∧ Pv i σ H, ⟨x.cps.toList.length, (Nat.sub_zero _).symm, Nat.zero_le _, h0⟩, ?_⟩
  rintro i m σ H ⟨rfl, hi, p⟩
  by_cases lt : i < x.cps.toList.length
  · refine .inr ⟨(show i < x.cps.size by simpa using lt), Pv (i + 1), fun σ' H' p' => ⟨_, by omega, rfl, lt, p'⟩, ?_⟩
    rintro v H' ⟨rfl, c, e, rfl⟩
    exact hs i c σ _ (by rw [Array.getElem?_toList]; exact e) p
  · obtain rfl : i = x.cps.toList.length := by omega
    exact .inl ⟨by show x.cps.size ≤ _; simp, hd σ H p⟩
/-- for a, b in zip(xs, ys): two lists of one length -/
theorem for_zip {K : PySem.W.Frag} {a b : Addr} {xs ys : List V} {g : TG} {tb : TS} {D : Ends} {σ : L2.St} {H H0 : Hp} (ka : SqL K H0 a xs) (kb : SqL K H0 b ys) (len : xs.length = ys.length) (Pv : Nat → L2.St → Hp → Prop) (h0 : Pv 0 σ H)
    (hl : ∀ i σ' H', i ≤ xs.length → Pv i σ' H' → Same H0 H')
    (hs : ∀ i x y σ H T, xs[i]? = some x → ys[i]? = some y → Pv i σ H → H T = none → g (.ref T) σ (upd H T (.tup [x, y])) fun σ2 H2 => tb { D with nx := Pv (i + 1), ct := Pv (i + 1), bk := D.nx } σ2 H2) (hd : ∀ σ H, Pv xs.length σ H → D.nx σ H) : Loop (Itz K a b) g tb D σ H := by
  refine ⟨fun i m σ H => m = xs.length - i ∧ i ≤ xs.length ∧ Pv i σ H, ⟨xs.length, (Nat.sub_zero _).symm, Nat.zero_le _, h0⟩, ?_⟩
  rintro i m σ H ⟨rfl, hi, p⟩
  have qa := sqL_keep ka fun o e => hl i σ H hi p _ _ e
  have qb := sqL_keep kb fun o e => hl i σ H hi p _ _ e
  by_cases lt : i < xs.length
  · refine .inr ⟨⟨xs, ys, xs[i], ys[i]'(len ▸ lt), qa, qb, by simp [lt], by simp [len ▸ lt]⟩, Pv (i + 1), fun σ' H' p' => ⟨_, by omega, rfl, lt, p'⟩, ?_⟩
    rintro v H' ⟨T, x, y, rfl, n, rfl, e1, e2⟩
    exact hs i x y σ H T (e1 xs qa) (e2 ys qb) p n
  · obtain rfl : i = xs.length := by omega
    exact .inl ⟨⟨xs, ys, qa, qb, .inl (Nat.le_refl _)⟩, hd σ H p⟩
/-- two ascending lists of the same ints, each once -/
theorem asc_perm {l r : List Int} (h : l.Pairwise (· ≤ ·)) (g : r.Pairwise (· ≤ ·)) (p : l.Perm r) : l = r := p.eq_of_pairwise (fun _ _ _ _ a b => Int.le_antisymm a b) h g
end Txs


/-! What the top leaves, read off by addresses: defs, methods, getters of properties. -/
namespace Hd
open PySem PySem.Spec PyProof.Rows L2 He
/-- one def: where it stands, its text -/
structure DefP where
  at_ : PySem.W.Frag → Addr
  name : PySem.Str
  qual : PySem.Str
  params : Arguments
  body : List Stmt
  scope : Scope
  dfl : List Dv := []
def fnP (K : PySem.W.Frag) (a : Addr) : FnW := match K.lookup a with
  | some ⟨_, _, .func fd, _⟩ => some (fd.name, fd.qualname, fd.params, fd.body, fd.scope, fd.globals, fd.closure, fd.builtins)
  | _ => none
def DefP.val (d : DefP) : FnW := some (d.name, d.qual, d.params, .stmts d.body, d.scope, mainGlobals, [], builtinsNs)
def DefP.dvs (K : PySem.W.Frag) (d : DefP) : List V := d.dfl.map (Dv.v K)
def DefP.ok (K : PySem.W.Frag) (d : DefP) : Bool := PySem.W.keepIn K (.ref (d.at_ K)) && match K.lookup (d.at_ K) with
  | some ⟨_, _, .func fd, _⟩ => PySem.W.codeIn K fd.code d.qual && dflB K fd.defaults (d.dvs K)
  | _ => false
theorem DefP.funD {K : PySem.W.Frag} {d : DefP} (e : fnP K (d.at_ K) = d.val) (c : d.ok K = true) : ∃ fd, FunD K d.name d.qual d.params d.body d.scope (d.dvs K) [] (d.at_ K) fd := by
  obtain ⟨kp, c⟩ := ba c
  unfold fnP at e
  rcases q : K.lookup (d.at_ K) with _ | ⟨oc, od, dt, osl⟩
  · rw [q] at c; cases c
  · rw [q] at c e
    cases dt
    case func fd =>
      obtain ⟨n1, n2, n3, n4, n5, n6, n7, n8, n9, n10, n11, n12, n13, n14, n15⟩ := fd
      have e : (some (n1, n2, n3, n4, n5, n6, n7, n15) : FnW) = some (d.name, d.qual, d.params, .stmts d.body, d.scope, mainGlobals, [], builtinsNs) := e
      simp only [Option.some.injEq, Prod.mk.injEq] at e
      obtain ⟨rfl, rfl, rfl, rfl, rfl, rfl, rfl, rfl⟩ := e
      obtain ⟨k1, k2⟩ := ba (show (PySem.W.codeIn K n13 d.qual && dflB K n8 (d.dvs K)) = true from c)
      exact ⟨_, ⟨oc, od, n8, n9, n10, n11, n12, n13, n14, osl, rfl, q, k1, dflB_ok k2, .inl rfl⟩, kp⟩
    all_goals cases c
/-- a property's object, its getter -/
def pAt (K : PySem.W.Frag) (C : Addr) (f : PySem.Str) : Addr := match PySem.W.findIn K (.ref C) f with
  | some (some (.ref p)) => p
  | _ => 0
def gAt (K : PySem.W.Frag) (C : Addr) (f : PySem.Str) : Addr := match PySem.W.recIn K (pAt K C f) "property" with
  | some (.ref g :: _) => g
  | _ => 0
def propB (K : PySem.W.Frag) (C : Addr) (f : PySem.Str) : Bool := eqO (PySem.W.findIn K (.ref C) f) (some (some (.ref (pAt K C f)))) && (eqO (PySem.W.specialIn K (.ref (pAt K C f)) "__get__") (some (some (.builtin "property.__get__"))) &&
  (decide (PySem.W.takesIn K (.ref (pAt K C f)) = some true) && match PySem.W.recIn K (pAt K C f) "property" with
    | some (.ref _ :: _) => true
    | _ => false))
theorem propB_ok {K : PySem.W.Frag} {C : Addr} {f : PySem.Str} (h : propB K C f = true) : PropOf K C f (pAt K C f) (gAt K C f) := by
  obtain ⟨h1, h⟩ := ba h
  obtain ⟨h2, h⟩ := ba h
  obtain ⟨h3, h4⟩ := ba h
  refine ⟨eqO_ok h1, eqO_ok h2, of_decide_eq_true h3, ?_⟩
  unfold gAt
  split at h4
  · rename_i g r e
    rw [e]
    exact ⟨r, rfl⟩
  · cases h4
abbrev Obs : Type := Bool × List FnW
def obsP (fa : List Fa) (ex : PySem.W.Frag → Bool) (fn : List DefP) (K : PySem.W.Frag) : Obs := ((fa.all fun f => f.ok K) && (ex K && fn.all fun d => d.ok K), fn.map fun d => fnP K (d.at_ K))
def valP (fn : List DefP) : Obs := (true, fn.map DefP.val)
def Says (fa : List Fa) (ex : PySem.W.Frag → Bool) (fn : List DefP) (K : PySem.W.Frag) : Prop := obsP fa ex fn K = valP fn
def obsG (n : Nat) (fa : List Fa) (ex : PySem.W.Frag → Bool) (fn : List DefP) (g : Addr → Option Obj) : Obs := obsP fa ex fn (frG g (asD g n))
def hook (n : Nat) (fa : List Fa) (ex : PySem.W.Frag → Bool) (fn : List DefP) : PySem.W.Hook where
  α := Obs
  obs := fun s => obsG n fa ex fn s.heap.get?
  val := fun _ => valP fn
  says := fun _ h => ∃ K : PySem.W.Frag, K.In h ∧ Says fa ex fn K
  of := fun _ _ e => ⟨_, frG_in, e⟩
  keeps := fun _ _ _ ⟨K, i, c⟩ k => ⟨K, PySem.W.Frag.In.keeps i k, c⟩
theorem obsG_eq {n : Nat} {fa : List Fa} {ex : PySem.W.Frag → Bool} {fn : List DefP} {g : Addr → Option Obj} {s : Shared} (h : ∀ a, g a = s.heap.get? a) : obsG n fa ex fn g = (hook n fa ex fn).obs s := by
  rw [show g = s.heap.get? from funext h]
  rfl
section
variable {fa : List Fa} {ex : PySem.W.Frag → Bool} {fn : List DefP} {K : PySem.W.Frag}
theorem Says.all (c : Says fa ex fn K) : (∀ f ∈ fa, f.ok K = true) ∧ ex K = true ∧ ∀ d ∈ fn, d.ok K = true := by
  obtain ⟨h1, h⟩ := ba (show ((fa.all fun f => f.ok K) && (ex K && fn.all fun d => d.ok K)) = true from congrArg (fun z : Obs => z.1) c)
  obtain ⟨h2, h3⟩ := ba h
  exact ⟨List.all_eq_true.mp h1, h2, List.all_eq_true.mp h3⟩
theorem Says.fact (c : Says fa ex fn K) (i : Nat) {f : Fa} (h : fa[i]? = some f := by rfl) : f.ok K = true := c.all.1 f (List.mem_of_getElem? h)
theorem Says.def_ (c : Says fa ex fn K) (i : Nat) {d : DefP} (h : fn[i]? = some d := by rfl) : ∃ fd, FunD K d.name d.qual d.params d.body d.scope (d.dvs K) [] (d.at_ K) fd := by
  have e : fn.map (fun d => fnP K (d.at_ K)) = fn.map DefP.val := congrArg (fun z : Obs => z.2) c
  have e2 : (fn.map fun d => fnP K (d.at_ K))[i]? = (fn.map DefP.val)[i]? := by rw [e]
  rw [List.getElem?_map, List.getElem?_map, h] at e2
  exact DefP.funD (Option.some.inj e2) (c.all.2.2 d (List.mem_of_getElem? h))
end
end Hd


/-! x = {k: v for ..}: the comprehension gives its dict to the name ahead of its own end. -/
namespace Txs
open PySem PySem.Spec PyProof.Rows L2
abbrev one1 (tg iter : Expr) (ifs : List Expr) : List Comprehension := [⟨tg, iter, ifs, 0⟩]
section
variable {X : Cx}
/-- the name stands on the comprehension's row, and the comprehension has none of this name -/
theorem used_dc {kx vx : Expr} {gs : List Comprehension} {sc : Scope} {p q : Pos} {x : PySem.Str} {n : Nat} {env : Env} (fn : env.scope.kind = .function) (lx : env.scope.names.lookup x = some .local) (same : (q.line == p.line) = true)
    (no : (sc.names.any fun (y, k) => y == x && (k == .local || k == .cell)) = false) : swapsWith (.DictComp kx vx gs sc p) (some (.Name x q)) n env = pure true := by
  have h1 : env.kindOf x = some .local := lx
  have h2 : env.blockKind = .function := by
    unfold Env.blockKind
    rw [fn]
    rfl
  unfold swapsWith
  simp only [h1, h2, no, same, Expr.pos]
  rfl
theorem ps_setDc {i : Nat} {x : PySem.Str} {q : Pos} {kx vx tg iter : Expr} {ifs : List Expr} {sc : Scope} {own : List (PySem.Str × Nat)} {p p' : Pos} {wi : TI} {g : TG} {tt : TT} {tk tv : TE} (calm : X.calm = true) (nd : X.N.Nodup) (at_ : X.N[i]? = some x)
    (loc : X.env.scope.names.lookup x = some .local) (us : swapsWith (.DictComp kx vx (one1 tg iter ifs) sc p) (some (.Name x q)) p'.line X.env = pure true) (hi : PI X tg iter wi) (ok : BlkOk X.N X.env.scope sc own)
    (hg : ∀ s H C cl fp, PG (X.blk s H sc (compEnvC sc cl C X.env) fp) tg g) (ht : ∀ s H C cl fp, PTs (X.blk s H sc (compEnvC sc cl C X.env) fp) ifs tt)
    (hk : ∀ s H C cl fp, PE (X.blk s H sc (compEnvC sc cl C X.env) fp) kx tk) (hv : ∀ s H C cl fp, PE (X.blk s H sc (compEnvC sc cl C X.env) fp) vx tv) (fs : ∀ z, foldedSetIterable iter X.env z = pure z := by intro _; rfl) :
    PS X (.Assign [.Name x q] (.DictComp kx vx (one1 tg iter ifs) sc p) p') (tAsg (tDc wi g tt tk tv (own.map (·.2))) (gName i)) := by
  refine ⟨fun pins s σ H D I h => ?_⟩
  have h : tDc wi g tt tk tv (own.map (·.2)) σ H (fun z H1 => gName i z σ H1 D.nx) := h
  rw [exec_Assign_Name_used _ _ _ _ us]
  refine wpAny_bind (wpAny_standAt (wpAny_bind ?_))
  refine wpAny_bind (thn (dc_core (use := some (assign (.Name x q) X.env)) (Qf := fun _ s1 => SP X pins D .next s1) calm nd I hi ok hg ht hk hv fs h fun L C s1 m H1 I1 nx ns fp => ?_) fun _ s1 z => wpAny_pure (wpAny_pure z))
  obtain ⟨a0, a1, a2, a3, a4, a5⟩ := fp
  refine wpAny_assign_Name (store_ok2 (v := V.ref L) I1 nd at_ (.inl loc) rfl (fun s2 I2 st => ?_) (.inr loc))
  obtain ⟨b, but, wh⟩ := st
  have ne : C ≠ b := by
    rcases wh with z | z
    · intro e
      exact a1 (e.trans z)
    · intro e
      exact a4 x b z e.symm
  exact ⟨m, ns.sameBut but ne, fun h3 b3 => ⟨_, H1, I2.turned (t' := s2.toks) (fun c hc o e => (b3.2 c o).trans e) a0 a1 a3 a4 a5, nx⟩⟩
end
end Txs


/-! == and != of an instance by its class's own ==, whatever stands on the right; what it answers is what its promise says. -/
namespace Cmps
open PySem PySem.Spec PyProof.Rows L2
/-- a class with its own ==, and with no own != -/
structure Own (K : PySem.W.Frag) (C f : Addr) : Prop where
  eq : PySem.W.findIn K (.ref C) "__eq__" = some (some (.ref f))
  fn : PySem.W.isFn K (.ref f) = true
  ne : PySem.W.findIn K (.ref C) "__ne__" = some (some (.builtin "object.__ne__"))
  ob : PySem.W.subIn K (.ref C) (.type "object") = some true
theorem ne_bind (self : Value) : bindSpecial (.builtin "object.__ne__") self = pure (.builtin "object.__ne__", [self]) :=
  (Slot.of (T := "object") (name := "__ne__") (owner := "object") (n := "__ne__") (by rw [typeLookup_type, builtinLookup_eq_fast]; kernel_rfl) (by decide +kernel) (by decide +kernel) (by decide +kernel)
    (.inl (by decide +kernel)) (by rw [isSubtype_type]; kernel_rfl)).bind self
section
variable {prog : Program} {w : World} {A : Around} {E : Value → Shared → Prop} {s : Shared} {K : PySem.W.Frag} {x C f : Addr} {ox : Obj} {od : Option Obj} {b tb : Value}
theorem ifBound_ne {M : Model} {args : List Value} {Q : Option Value → Shared → Prop} (X : K.In s.heap) (I : PySem.W.InstAt s.heap x ox C od) (hs : PySem.W.findIn K (.ref C) "__ne__" = some (some (.builtin "object.__ne__")))
    (h : wpAny M A (call (.builtin "object.__ne__") (.ref x :: args)) (fun v => Q (some v)) E s) : wpAny M A (callSpecialIfBound? (.ref x) "__ne__" args) Q E s := by
  simp only [callSpecialIfBound?, bindSpecialIfBound?]
  refine wpAny_holding (wpAny_bind (wpAny_bind (wpAny_bind (I.type.here ((PySem.W.looks_findIn X hs).here ?_)))))
  refine wpAny_bind (wpAny_askSetting (wpAny_ite ?_))
  have fin : wpAny M A (call (.builtin "object.__ne__") ([.ref x] ++ args) >>= fun v => pure (some v)) Q E s := wpAny_bind (wpAny_mono h (fun v s' h' => wpAny_pure h') fun _ _ h' => h')
  rw [ne_bind]
  split
  · exact wpAny_bind (wpAny_pure (wpAny_pure (by exact fin)))
  · exact wpAny_tryCatch (wpAny_bind (wpAny_pure (wpAny_pure (by exact fin))))
/-- !=: the own == asked, its answer turned -/
theorem ne_K {Q : Value → Shared → Prop} (hu : A.units + 1 < cLine) (X : K.In s.heap) (O : Own K C f) (I : PySem.W.InstAt s.heap x ox C od) (hb : PySem.W.Looks (model prog w) s.heap (typeOf b) tb) (hn : PySem.W.notFirst K C tb = true)
    (h : wpAny (model prog w) A.in1 (call (.ref f) [.ref x, b]) (fun v s' => ∃ r, v = .bool r ∧ Q (.bool (!r)) s') E s) : wpAny (model prog w) A (richCompare .NotEq (.ref x) b) Q E s := by
  have obj : PySem.W.Looks (model prog w) s.heap (isInstance (.ref x) (.type "object")) true := I.type.andThen (PySem.W.looks_subIn X O.ob)
  have body : wpAny (model prog w) A (call (.builtin "object.__ne__") [.ref x, b]) (fun v s' => ∃ r, v = .bool r ∧ Q (.bool r) s') E s := by
    refine wpAny_call (codeAny_call_builtin (by decide +kernel) F.cmpEntry_ne (PySem.W.check_slot F.cmpKind_ne F.cmpSplit_ne obj (F.cmpArgs_ne _ _) ?_))
    unfold Builtin.«object.__ne__»
    refine wpAny_bind (m := slotArgs "__ne__" 1 _) (wpAny_pure ?_)
    refine wpAny_bind (wpAny_cRoomFor (show A.in1.units < cLine from hu) ?_)
    refine wpAny_bind (PySem.W.ifBound_K X I O.eq O.fn (wpAny_mono h (fun v s' hv => ?_) fun _ _ e => e))
    obtain ⟨r, rfl, q⟩ := hv
    exact wpAny_bind (wpAny_truthy_bool (wpAny_pure ⟨_, rfl, q⟩))
  have one : wpAny (model prog w) A (tryCompare (.ref x) "__ne__" b) (fun r s' => ∃ v, r = some (.bool v) ∧ Q (.bool v) s') E s := by
    unfold tryCompare
    refine wpAny_bind (ifBound_ne X I O.ne (wpAny_mono body (fun v s' hv => ?_) fun _ _ e => e))
    obtain ⟨r, rfl, q⟩ := hv
    exact wpAny_pure ⟨_, rfl, q⟩
  unfold richCompare
  simp only [oneThing_ref]
  refine wpAny_holding (wpAny_bind (wpAny_cRoomFor (Nat.lt_of_succ_lt hu) ?_))
  refine wpAny_bind (I.type.here (wpAny_bind (hb.here ?_)))
  split
  · rename_i q
    have e : PySem.W.subIn K tb (.ref C) = some false := by
      rcases Bool.or_eq_true_iff.mp hn with e | e
      · rw [beq_iff_eq.mp e] at q; simp at q
      · exact beq_iff_eq.mp e
    refine wpAny_bind ((PySem.W.looks_subIn X e).here ?_)
    simp only [Bool.false_eq_true, if_false]
    refine wpAny_bind (wpAny_mono one (fun r s' z => ?_) fun _ _ e => e)
    obtain ⟨v, rfl, hq⟩ := z
    exact wpAny_pure hq
  · refine wpAny_bind (wpAny_pure ?_)
    simp only [Bool.false_eq_true, if_false]
    refine wpAny_bind (wpAny_mono one (fun r s' z => ?_) fun _ _ e => e)
    obtain ⟨v, rfl, hq⟩ := z
    exact wpAny_pure hq
end
section
variable {X : Cx} {k : Nat} {C f : Addr} {fd : FuncData} {ps : List Str} {sp : Sp}
/-- the own == called, at the running body or below it -/
theorem own_call (F : FnOk X.prog X.w X.K X.mg X.base CX0 k f fd ps sp) (hb : Binds X.K fd ps []) {A : Around} (sb : Sub X k A) {pins : List (Addr × Obj)} {σ : L2.St} {H : Hp} {s : Shared} {a : Addr} {y : V} {u : Value} {Q : VK}
    (I : Inv X pins σ H s) (ry : RelV y u) (h : sp [.ref a, y] H (fun v H' => ∃ b, v = .bl b ∧ Q v H') E0) :
    wpAny (model X.prog X.w) A (call (.ref f) [.ref a, u]) (fun v s' => ∃ b H', v = .bool b ∧ Inv X pins σ H' s' ∧ Q (.bl b) H') X.xe s := by
  have e0 : Env0 X.prog X.w X.K X.mg X.base A X.stack s H := by
    have e := I.env0
    exact ⟨by rw [sb.fr]; exact e.frames, e.mod, e.bs, e.bsz, e.funs, e.frf, e.hok, e.bare⟩
  have hl := F.len _ _ _ _ h
  have r2 : Vals [V.ref a, y] [Value.ref a, u] := .cons rfl (.cons ry .nil)
  refine wpAny_call (codeAny_mono (F.run A X.stack s H ⟨[.ref a, u], []⟩ [.ref a, u] [.ref a, y] _ E0 sb.room e0 (by
    have := hb s [.ref a, u] I.kIn (by simpa using hl)
    simpa using this) r2 h) fun r s' hq => ?_)
  cases r with
  | error e => exact L2.pass0 pins σ H s e s' I hq
  | ok fl =>
    cases fl with
    | ret w =>
      obtain ⟨z, H', I', rz, b, ez, q⟩ := I.after hq
      subst ez
      cases (show w = .bool b from rz)
      exact ⟨b, H', rfl, I', q⟩
    | next => exact False.elim hq
    | brk => exact False.elim hq
    | cont => exact False.elim hq
/-- what x == y and x != y ask: x an instance of the class, y of a type that does not come first -/
def rEqI (K : PySem.W.Frag) (C : Addr) (sp : Sp) (neg : Bool) : R2 := fun x y H Q => ∃ a dx fs t, x = .ref a ∧ H a = some (.ins C dx fs) ∧ TyX K H y t ∧ PySem.W.notFirst K C t = true ∧ sp [.ref a, y] H (fun v H' => ∃ b, v = .bl b ∧ Q (.bl (if neg then !b else b)) H') E0
theorem op_eqI (F : FnOk X.prog X.w X.K X.mg X.base CX0 k f fd ps sp) (hb : Binds X.K fd ps []) (O : Own X.K C f) (hr : Room k X.A) : OpR X (compareOp .Eq) (rEqI X.K C sp false) := by
  intro pins s σ H x y v u Q I rx ry hq
  obtain ⟨a, dx, fs, t, rfl, ha, ty, nf, h⟩ := hq
  cases rx
  obtain ⟨mA, J, _⟩ := ins_get I.hok ha
  obtain ⟨od, J, _⟩ := J.look
  obtain ⟨m, hF⟩ := I.fr
  obtain ⟨T, KX, hT, _⟩ := kit_of I ry ty
  show wpAny (model X.prog X.w) X.A (richCompare .Eq (.ref a) u) (EP X pins σ Q) X.xe s
  refine PySem.W.cmp_K (op := .Eq) (tb := t) hr.units0 hF I.ok.mod.kin J (KX.ty _ _ I.kIn hT) nf O.eq O.fn ?_
  have h' : sp [.ref a, y] H (fun v H' => ∃ b, v = .bl b ∧ Q v H') E0 := by
    have e : (fun v H' => ∃ b, v = V.bl b ∧ Q (.bl (if false = true then !b else b)) H') = (fun v H' => ∃ b, v = V.bl b ∧ Q v H') := by
      funext v H'
      exact propext ⟨fun ⟨b, e, q⟩ => ⟨b, e, by subst e; exact q⟩, fun ⟨b, e, q⟩ => ⟨b, e, by subst e; exact q⟩⟩
    rw [← e]; exact h
  refine wpAny_mono (own_call F hb (A := X.A) ⟨hr, rfl⟩ I ry h') (fun r s' z => ?_) fun _ _ e => e
  obtain ⟨b, H', rfl, I', q⟩ := z
  exact ⟨.bl b, H', I', rfl, q⟩
theorem op_neI (F : FnOk X.prog X.w X.K X.mg X.base CX0 k f fd ps sp) (hb : Binds X.K fd ps []) (O : Own X.K C f) (hr : Room (k + 1) X.A) : OpR X (compareOp .NotEq) (rEqI X.K C sp true) := by
  intro pins s σ H x y v u Q I rx ry hq
  obtain ⟨a, dx, fs, t, rfl, ha, ty, nf, h⟩ := hq
  cases rx
  obtain ⟨mA, J, _⟩ := ins_get I.hok ha
  obtain ⟨od, J, _⟩ := J.look
  obtain ⟨T, KX, hT, _⟩ := kit_of I ry ty
  show wpAny (model X.prog X.w) X.A (richCompare .NotEq (.ref a) u) (EP X pins σ Q) X.xe s
  refine ne_K (tb := t) (by have := hr.un; omega) I.kIn O J (KX.ty _ _ I.kIn hT) nf ?_
  have h' : sp [.ref a, y] H (fun v H' => ∃ b, v = .bl b ∧ (fun v H' => ∃ b, v = .bl b ∧ Q (.bl (!b)) H') v H') E0 := by
    have e : (fun v H' => ∃ b, v = V.bl b ∧ Q (.bl (if true = true then !b else b)) H') = (fun v H' => ∃ b, v = .bl b ∧ (fun v H' => ∃ b, v = V.bl b ∧ Q (.bl (!b)) H') v H') := by
      funext v H'
      exact propext ⟨fun ⟨b, e, q⟩ => ⟨b, e, b, e, q⟩, fun ⟨b, e, b', e', q⟩ => ⟨b', e', q⟩⟩
    rw [← e]; exact h
  refine wpAny_mono (own_call F hb (A := X.A.in1) (Sub.in1 ⟨hr, rfl⟩) I ry h') (fun r s' z => ?_) fun _ _ e => e
  obtain ⟨b, H', rfl, I', b', eb, q⟩ := z
  cases eb
  exact ⟨b, rfl, .bl (!b), H', I', rfl, q⟩
end
end Cmps


/-! == with a built-in value on the left and an instance with its own == on the right: the built-in's == declines, then the instance's is asked. -/
namespace Cmps
open PySem PySem.Spec PyProof.Rows L2
section
variable {prog : Program} {w : World} {A : Around} {E : Value → Shared → Prop} {s : Shared} {K : PySem.W.Frag} {x C f dx : Addr} {ox : Obj} {od : Option Obj} {v : Value} {T ida : String}
/-- the built-in's own == declines an instance -/
def Declines (prog : Program) (w : World) (s : Shared) (v : Value) (x : Addr) (T ida : String) : Prop := s.TypeIs v T ∧ Slot T "__eq__" ida ∧ ∀ (A : Around) (E : Value → Shared → Prop) (Q : Value → Shared → Prop), Q .notImplemented s → wpAny (model prog w) A (call (.builtin ida) [v, .ref x]) Q E s
theorem eq_right {Q : Value → Shared → Prop} (hu : A.units < cLine) (X : K.In s.heap) (O : Own K C f) (I : PySem.W.InstAt s.heap x ox C od) (D : Declines prog w s v x T ida) (nb : PySem.W.subIn K (.ref C) (.type T) = some false)
    (h : wpAny (model prog w) A (call (.ref f) [.ref x, v]) (PySem.W.CmpBack Q) E s) : wpAny (model prog w) A (richCompare .Eq v (.ref x)) Q E s := by
  obtain ⟨hT, hs, hd⟩ := D
  have one : wpAny (model prog w) A (tryCompare (.ref x) "__eq__" v) (fun r s' => ∃ v, r = some v ∧ Q v s') E s := by
    unfold tryCompare
    refine wpAny_bind (PySem.W.ifBound_K X I O.eq O.fn (wpAny_mono h (fun v s' hv => ?_) fun _ _ e => e))
    cases v <;> first | exact hv.elim | exact wpAny_pure ⟨_, rfl, hv⟩
  unfold richCompare
  simp only [hT.oneThing_none]
  refine wpAny_holding (wpAny_bind (wpAny_cRoomFor hu ?_))
  refine wpAny_bind (wpAny_typeOf hT (wpAny_bind (I.type.here ?_)))
  have ne : (Value.type T != Value.ref C) = true := by simp
  simp only [ne, if_true]
  refine wpAny_bind ((PySem.W.looks_subIn X nb).here ?_)
  simp only [Bool.false_eq_true, if_false, Bool.not_false, if_true]
  refine wpAny_bind (m := tryCompare v _ (.ref x)) (wpAny_tryCompare_declines hT hs (hd _ _ _ ⟨rfl, ?_⟩))
  refine wpAny_bind (wpAny_mono one (fun r s' z => ?_) fun _ _ e => e)
  obtain ⟨v, rfl, hq⟩ := z
  exact wpAny_pure hq
theorem dec_none : Declines prog w s .none x "NoneType" "NoneType.__eq__" :=
  ⟨rfl, F.slot_NoneType_eq, fun A E Q q => GQ.call_here F.slot_NoneType_eq rfl F.entry_NoneType_eq (F.args_NoneType_eq_2 _ _) (by
    unfold Builtin.«NoneType.__eq__»
    exact wpAny_bind (m := slotArgs "__eq__" 1 _) (wpAny_pure (wpAny_pure q)))⟩
theorem asInt_none {M : Model} {Q : Option Int → Shared → Prop} (hx : s.heap.get? x = some ox) (hp : ox.data = .plain) (q : Q none s) : wpAny M A (asInt? (.ref x)) Q E s := by
  unfold asInt?
  refine wpAny_bind (wpAny_load hx ?_)
  rw [hp]
  exact wpAny_pure q
theorem asStr_none {M : Model} {Q : Option PySem.Str → Shared → Prop} (hx : s.heap.get? x = some ox) (hp : ox.data = .plain) (q : Q none s) : wpAny M A (asStr? (.ref x)) Q E s := by
  unfold asStr?
  refine wpAny_bind (wpAny_load hx ?_)
  rw [hp]
  exact wpAny_pure q
theorem dec_int {i : Int} {t : Tok} (hx : s.heap.get? x = some ox) (hp : ox.data = .plain) : Declines prog w s (.int i t) x "int" "int.__eq__" :=
  ⟨rfl, F.slot_int_eq, fun A E Q q => GQ.call_here F.slot_int_eq rfl F.entry_int_eq (F.args_int_eq_2 _ _) (by
    show wpAny _ _ (Builtin.Int.intBinary "__eq__" _ false ⟨[.int i t, .ref x], []⟩) _ _ _
    unfold Builtin.Int.intBinary
    refine wpAny_bind (m := slotArgs "__eq__" 1 _) (wpAny_pure ?_)
    refine wpAny_bind (m := Builtin.Int.intOfSelf _) (wpAny_pure ?_)
    refine wpAny_bind (asInt_none hx hp ?_)
    exact wpAny_bind (wpAny_rule (wpAny_pure q)))⟩
theorem dec_bool {b : Bool} (hx : s.heap.get? x = some ox) (hp : ox.data = .plain) : Declines prog w s (.bool b) x "bool" "int.__eq__" :=
  ⟨rfl, F.slot_bool_eq, fun A E Q q => GQ.call_here F.slot_bool_eq rfl F.entry_int_eq (F.args_int_eq_2 _ _) (by
    show wpAny _ _ (Builtin.Int.intBinary "__eq__" _ false ⟨[.bool b, .ref x], []⟩) _ _ _
    unfold Builtin.Int.intBinary
    refine wpAny_bind (m := slotArgs "__eq__" 1 _) (wpAny_pure ?_)
    refine wpAny_bind (m := Builtin.Int.intOfSelf _) (wpAny_pure ?_)
    refine wpAny_bind (asInt_none hx hp ?_)
    exact wpAny_bind (wpAny_rule (wpAny_pure q)))⟩
theorem dec_str {z : PySem.Str} {t : Tok} (hx : s.heap.get? x = some ox) (hp : ox.data = .plain) : Declines prog w s (.str z t) x "str" "str.__eq__" :=
  ⟨rfl, F.slot_str_eq, fun A E Q q => GQ.call_here F.slot_str_eq rfl F.entry_str_eq (F.args_str_eq_2 _ _) (by
    show wpAny _ _ (Builtin.Str.strCompare "__eq__" _ ⟨[.str z t, .ref x], []⟩) _ _ _
    unfold Builtin.Str.strCompare
    refine wpAny_bind (m := Builtin.Str.strSlot "__eq__" 1 _) (wpAny_pure ?_)
    refine wpAny_bind (asStr_none hx hp ?_)
    exact wpAny_bind (wpAny_rule (wpAny_pure q)))⟩
theorem dec_list {l : Addr} (hl : s.TypeIs (.ref l) "list") (X : K.In s.heap) (I : PySem.W.InstAt s.heap x ox C od) (nb : PySem.W.subIn K (.ref C) (.type "list") = some false) : Declines prog w s (.ref l) x "list" "list.__eq__" :=
  ⟨hl, F.slot_list_eq, fun A E Q q => GQ.call_here F.slot_list_eq hl F.entry_list_eq (F.args_list_eq_2 _ _) (by
    unfold Builtin.«list.__eq__»
    refine wpAny_bind (m := slotArgs "__eq__" 1 _) (wpAny_pure ?_)
    have ob : PySem.W.Looks (model prog w) s.heap (isInstance (.ref x) (.type "list")) false := I.type.andThen (PySem.W.looks_subIn X nb)
    refine wpAny_bind (ob.here ?_)
    rw [if_pos (show (!false) = true from rfl)]
    exact wpAny_pure q)⟩
theorem dec_tup {l : Addr} (hl : s.TypeIs (.ref l) "tuple") (X : K.In s.heap) (I : PySem.W.InstAt s.heap x ox C od) (nb : PySem.W.subIn K (.ref C) (.type "tuple") = some false) : Declines prog w s (.ref l) x "tuple" "tuple.__eq__" :=
  ⟨hl, F.slot_tuple_eq, fun A E Q q => GQ.call_here F.slot_tuple_eq hl F.entry_tuple_eq (F.args_tuple_eq_2 _ _) (by
    unfold Builtin.«tuple.__eq__»
    refine wpAny_bind (m := slotArgs "__eq__" 1 _) (wpAny_pure ?_)
    have ob : PySem.W.Looks (model prog w) s.heap (isInstance (.ref x) (.type "tuple")) false := I.type.andThen (PySem.W.looks_subIn X nb)
    refine wpAny_bind (ob.here ?_)
    rw [if_pos (show (!false) = true from rfl)]
    exact wpAny_pure q)⟩
theorem dec_dict {l : Addr} (hl : s.TypeIs (.ref l) "dict") (X : K.In s.heap) (I : PySem.W.InstAt s.heap x ox C od) (nb : PySem.W.subIn K (.ref C) (.type "dict") = some false) : Declines prog w s (.ref l) x "dict" "dict.__eq__" :=
  ⟨hl, F.slot_dict_eq, fun A E Q q => GQ.call_here F.slot_dict_eq hl F.entry_dict_eq (F.args_dict_eq_2 _ _) (by
    unfold Builtin.«dict.__eq__»
    refine wpAny_bind (m := Builtin.Dict.dictSlotArgs "__eq__" _) (wpAny_pure ?_)
    have ob : PySem.W.Looks (model prog w) s.heap (isInstance (.ref x) (.type "dict")) false := I.type.andThen (PySem.W.looks_subIn X nb)
    refine wpAny_bind (ob.here ?_)
    rw [if_pos (show (!false) = true from rfl)]
    exact wpAny_bind (wpAny_rule (wpAny_pure q)))⟩
end
theorem OpR.or {X : Cx} {o : Value → Value → Sem Value} {r1 r2 : R2} (h1 : OpR X o r1) (h2 : OpR X o r2) : OpR X o (fun x y H Q => r1 x y H Q ∨ r2 x y H Q) := fun pins s σ H x y v u Q I rx ry h => h.elim (fun h => h1 pins s σ H x y v u Q I rx ry h) fun h => h2 pins s σ H x y v u Q I rx ry h
/-- what x == y asks: y an instance with its own ==, x a built-in value -/
def rEqL (K : PySem.W.Frag) (C : Addr) (sp : Sp) : R2 := fun x y H Q => ∃ a dx fs T, y = .ref a ∧ H a = some (.ins C dx fs) ∧ TyOf K H x (.type T) ∧ T ≠ "float" ∧ PySem.W.subIn K (.ref C) (.type T) = some false ∧ sp [.ref a, x] H (fun v H' => ∃ b, v = .bl b ∧ Q (.bl b) H') E0
section
variable {X : Cx} {k : Nat} {C f : Addr} {fd : FuncData} {ps : List Str} {sp : Sp}
theorem op_eqL (F : FnOk X.prog X.w X.K X.mg X.base CX0 k f fd ps sp) (hb : Binds X.K fd ps []) (O : Own X.K C f) (hr : Room k X.A) : OpR X (compareOp .Eq) (rEqL X.K C sp) := by
  intro pins s σ H x y v u Q I rx ry hq
  obtain ⟨a, dx, fs, T, rfl, ha, ty, nf, nb, h⟩ := hq
  cases ry
  obtain ⟨mA, J, _⟩ := ins_get I.hok ha
  obtain ⟨od, J, _⟩ := J.look
  show wpAny (model X.prog X.w) X.A (richCompare .Eq v (.ref a)) (EP X pins σ Q) X.xe s
  have h' : sp [.ref a, x] H (fun v H' => ∃ b, v = .bl b ∧ Q v H') E0 := by
    have e : (fun v H' => ∃ b, v = V.bl b ∧ Q (.bl b) H') = (fun v H' => ∃ b, v = V.bl b ∧ Q v H') := by
      funext v H'
      exact propext ⟨fun ⟨b, e, q⟩ => ⟨b, e, by subst e; exact q⟩, fun ⟨b, e, q⟩ => ⟨b, e, by subst e; exact q⟩⟩
    rw [← e]; exact h
  have fin : wpAny (model X.prog X.w) X.A (call (.ref f) [.ref a, v]) (PySem.W.CmpBack (EP X pins σ Q)) X.xe s := by
    refine wpAny_mono (own_call F hb (A := X.A) ⟨hr, rfl⟩ I rx h') (fun r s' z => ?_) fun _ _ e => e
    obtain ⟨b, H', rfl, I', q⟩ := z
    exact ⟨.bl b, H', I', rfl, q⟩
  have go : ∀ {ida : String}, Declines X.prog X.w s v a T ida → wpAny (model X.prog X.w) X.A (richCompare .Eq v (.ref a)) (EP X pins σ Q) X.xe s := fun D => eq_right hr.units0 I.kIn O J D nb fin
  cases ty with
  | non => cases (show v = Value.none from rx); exact go dec_none
  | bl y => cases (show v = Value.bool y from rx); exact go (dec_bool J.at_ rfl)
  | int i => obtain ⟨t, q⟩ := (show ∃ t, v = Value.int i t from rx); cases q; exact go (dec_int J.at_ rfl)
  | str y => obtain ⟨t, q⟩ := (show ∃ t, v = Value.str y t from rx); cases q; exact go (dec_str J.at_ rfl)
  | flt y => exact absurd rfl nf
  | @lst l xs ea =>
    cases (show v = Value.ref l from rx)
    obtain ⟨_, _, n, _, h1⟩ := (show ObjOk X.prog X.w H s.heap l (.lst xs) from I.hok l _ ea)
    exact go (dec_list ⟨_, h1, rfl⟩ I.kIn J nb)
  | @frz l ob xs ea =>
    cases (show v = Value.ref l from rx)
    obtain ⟨_, _, _, n, _, h1⟩ := (show ObjOk X.prog X.w H s.heap l (.frz ob (.lst xs)) from I.hok l _ ea)
    exact go (dec_list ⟨_, h1, rfl⟩ I.kIn J nb)
  | @tup l xs ea =>
    cases (show v = Value.ref l from rx)
    obtain ⟨_, _, _, o, h1, h2, _⟩ := (show ObjOk X.prog X.w H s.heap l (.tup xs) from I.hok l _ ea)
    exact go (dec_tup ⟨o, h1, h2⟩ I.kIn J nb)
  | @dK l kvs ea =>
    cases (show v = Value.ref l from rx)
    obtain ⟨_, _, vs, _, o, es, ep, h1, h2, _⟩ := (show ObjOk X.prog X.w H s.heap l (.dK kvs) from I.hok l _ ea)
    exact go (dec_dict ⟨o, h1, h2.1⟩ I.kIn J nb)
  | @dT l kvs ea =>
    cases (show v = Value.ref l from rx)
    obtain ⟨_, _, xs, _, o, es, ep, h1, h2, _⟩ := (show ObjOk X.prog X.w H s.heap l (.dT kvs) from I.hok l _ ea)
    exact go (dec_dict ⟨o, h1, h2.1⟩ I.kIn J nb)
end
end Cmps


/-! len(o), x in o, o[x], o[x] = y of an instance by its class's own methods; what they do is what their promises say. -/
namespace Itms
open PySem PySem.Spec PyProof.Rows L2
/-- an own special method of a class -/
structure Spc (K : PySem.W.Frag) (C : Addr) (n : Str) (f : Addr) : Prop where
  fi : PySem.W.findIn K (.ref C) n = some (some (.ref f))
  fn : PySem.W.isFn K (.ref f) = true
  inn : PySem.W.fnIn K f = true
  sq : PySem.W.noSeq K C = true
section
variable {X : Cx} {k : Nat} {C f : Addr} {fd : FuncData} {ps : List Str} {sp : Sp}
/-- the own method called, at the running body or below it -/
theorem own_call (F : FnOk X.prog X.w X.K X.mg X.base CX0 k f fd ps sp) (hb : Binds X.K fd ps []) {A : Around} (sb : Sub X k A) {pins : List (Addr × Obj)} {σ : L2.St} {H : Hp} {s : Shared} {vs : List V} {us : List Value} {Q : VK}
    (I : Inv X pins σ H s) (rv : Vals vs us) (h : sp vs H Q E0) :
    wpAny (model X.prog X.w) A (call (.ref f) us) (EP X pins σ Q) X.xe s := by
  have e0 : Env0 X.prog X.w X.K X.mg X.base A X.stack s H := by
    have e := I.env0
    exact ⟨by rw [sb.fr]; exact e.frames, e.mod, e.bs, e.bsz, e.funs, e.frf, e.hok, e.bare⟩
  have hl := F.len _ _ _ _ h
  have hlu : us.length = ps.length := by rw [← rv.length]; exact hl
  refine wpAny_call (codeAny_mono (F.run A X.stack s H ⟨us, []⟩ us vs _ E0 sb.room e0 (by
    have := hb s us I.kIn (by simpa using hlu)
    simpa using this) rv h) fun r s' hq => ?_)
  cases r with
  | error e => exact L2.pass0 pins σ H s e s' I hq
  | ok fl =>
    cases fl with
    | ret w =>
      obtain ⟨z, H', I', rz, q⟩ := I.after hq
      exact ⟨z, H', I', rz, q⟩
    | next => exact False.elim hq
    | brk => exact False.elim hq
    | cont => exact False.elim hq
def rLenI (C : Addr) (sp : Sp) : List V → Hp → VK → Prop := fun xs H Q => ∃ a dx fs, xs = [.ref a] ∧ H a = some (.ins C dx fs) ∧ sp [.ref a] H (fun v H' => ∃ n : Int, v = .int n ∧ 0 ≤ n ∧ n < 2 ^ 63 ∧ Q (.int n) H') E0
theorem call_lenI (F : FnOk X.prog X.w X.K X.mg X.base CX0 k f fd ps sp) (hb : Binds X.K fd ps []) (O : Spc X.K C "__len__" f) (hr : Room (k + 1) X.A) : CallR X (.builtin "len") (rLenI C sp) := by
  intro pins s σ H xs us Q I rv hq
  obtain ⟨a, dx, fs, rfl, ha, h⟩ := hq
  cases rv with
  | cons r1 r2 =>
    cases r2
    cases r1
    obtain ⟨mA, J, _⟩ := ins_get I.hok ha
    obtain ⟨od, J, _⟩ := J.look
    obtain ⟨m, hF⟩ := I.fr
    refine PySem.W.len_K hF I.ok.mod.kin J O.fi O.fn ?_
    refine wpAny_mono (own_call F hb (A := X.A.in1) (Sub.in1 ⟨hr, rfl⟩) I (.cons (show RelV (V.ref a) (Value.ref a) from rfl) .nil) h) (fun r s' z => ?_) fun _ _ e => e
    obtain ⟨v, H', I', rv, n, rfl, h0, h1, q⟩ := z
    obtain ⟨t, rfl⟩ := rv
    exact ⟨⟨h0, h1⟩, .int n, H', I'.tok _, ⟨_, rfl⟩, q⟩
def rInI (C : Addr) (sp : Sp) (neg : Bool) : R2 := fun x y H Q => ∃ a dx fs, y = .ref a ∧ H a = some (.ins C dx fs) ∧ sp [.ref a, x] H (fun v H' => ∃ b, v = .bl b ∧ Q (.bl (if neg then !b else b)) H') E0
theorem op_inI (F : FnOk X.prog X.w X.K X.mg X.base CX0 k f fd ps sp) (hb : Binds X.K fd ps []) (O : Spc X.K C "__contains__" f) (hr : Room k X.A) : OpR X (compareOp .In) (rInI C sp false) := by
  intro pins s σ H x y v u Q I rx ry hq
  obtain ⟨a, dx, fs, rfl, ha, h⟩ := hq
  cases ry
  obtain ⟨mA, J, _⟩ := ins_get I.hok ha
  obtain ⟨od, J, _⟩ := J.look
  obtain ⟨m, hF⟩ := I.fr
  refine PySem.W.in_K hF I.ok.mod.kin J O.fi O.fn ?_
  refine wpAny_mono (own_call F hb (A := X.A) ⟨hr, rfl⟩ I (.cons (show RelV (V.ref a) (Value.ref a) from rfl) (.cons rx .nil)) h) (fun r s' z => ?_) fun _ _ e => e
  obtain ⟨v, H', I', rv, b, rfl, q⟩ := z
  cases (show r = .bool b from rv)
  exact wpAny_truthy_bool ⟨.bl b, H', I', rfl, q⟩
theorem op_notInI (F : FnOk X.prog X.w X.K X.mg X.base CX0 k f fd ps sp) (hb : Binds X.K fd ps []) (O : Spc X.K C "__contains__" f) (hr : Room k X.A) : OpR X (compareOp .NotIn) (rInI C sp true) := by
  intro pins s σ H x y v u Q I rx ry hq
  obtain ⟨a, dx, fs, rfl, ha, h⟩ := hq
  cases ry
  obtain ⟨mA, J, _⟩ := ins_get I.hok ha
  obtain ⟨od, J, _⟩ := J.look
  obtain ⟨m, hF⟩ := I.fr
  refine PySem.W.notIn_K hF I.ok.mod.kin J O.fi O.fn ?_
  refine wpAny_mono (own_call F hb (A := X.A) ⟨hr, rfl⟩ I (.cons (show RelV (V.ref a) (Value.ref a) from rfl) (.cons rx .nil)) h) (fun r s' z => ?_) fun _ _ e => e
  obtain ⟨v, H', I', rv, b, rfl, q⟩ := z
  cases (show r = .bool b from rv)
  exact wpAny_truthy_bool ⟨.bl (!b), H', I', rfl, q⟩
def rIxI (C : Addr) (sp : Sp) : R2 := fun x y H Q => ∃ a dx fs, x = .ref a ∧ H a = some (.ins C dx fs) ∧ sp [.ref a, y] H Q E0
theorem pe_ixI {a b : Expr} {ta tb : TE} {pos : Pos} (F : FnOk X.prog X.w X.K X.mg X.base CX0 k f fd ps sp) (hb : Binds X.K fd ps []) (O : Spc X.K C "__getitem__" f) (hr : Room (k + 1) X.A) (ha : PE X a ta) (he : PE X b tb)
    (hs : ∀ (o : Addr) (i : Value), subscripted b true (.ref o) i = runValue (.builtin "lifetime.subscript" ⟨[.ref o, i], []⟩) := by intro _ _; with_unfolding_all rfl) : PE X (.Subscript a b pos) (tOp (rIxI C sp) ta tb) := by
  refine ⟨fun pins s σ H Q I h => ?_⟩
  refine Subscript_ (binT ha he I h fun v u s2 x y H2 I2 rx ry q => ?_)
  obtain ⟨p, dx, fs, rfl, hp, h⟩ := q
  cases rx
  obtain ⟨mA, J, _⟩ := ins_get I2.hok hp
  obtain ⟨od, J, _⟩ := J.look
  obtain ⟨m, hF⟩ := I2.fr
  exact PySem.W.sub_K hF I2.ok.mod.kin J O.fi O.inn O.fn (own_call F hb (A := X.A.in1) (Sub.in1 ⟨hr, rfl⟩) I2 (.cons (show RelV (V.ref p) (Value.ref p) from rfl) (.cons ry .nil)) h) (hs _ _)
def rSetI (C : Addr) (sp : Sp) : V → V → V → Hp → (Hp → Prop) → Prop := fun o i v H Q => ∃ a dx fs, o = .ref a ∧ H a = some (.ins C dx fs) ∧ sp [.ref a, i, v] H (fun _ H' => Q H') E0
theorem set_insI (F : FnOk X.prog X.w X.K X.mg X.base CX0 k f fd ps sp) (hb : Binds X.K fd ps []) (O : Spc X.K C "__setitem__" f) (hr : Room k X.A) : PSet X (rSetI C sp) := by
  intro pins s σ H o i v ov iv u Q I ro ri rv hq
  obtain ⟨a, dx, fs, rfl, ha, h⟩ := hq
  cases ro
  obtain ⟨mA, J, _⟩ := ins_get I.hok ha
  obtain ⟨od, J, _⟩ := J.look
  obtain ⟨m, hF⟩ := I.fr
  refine PySem.W.ksp_setItem hF I.ok.mod.kin J O.sq O.fi O.fn ?_
  refine wpAny_mono (own_call F hb (A := X.A) ⟨hr, rfl⟩ I (.cons (show RelV (V.ref a) (Value.ref a) from rfl) (.cons ri (.cons rv .nil))) h) (fun r s' z => ?_) fun _ _ e => e
  obtain ⟨v, H', I', _, q⟩ := z
  exact ⟨H', I', q⟩
def rMulS : R2 := fun x y H Q => ∃ z n, x = .str z ∧ y = .int n ∧ MulOk z n ∧ Q (.str (Txt.mul z n)) H
/-- a text times an int -/
theorem op_mulS : OpR X (binaryOp .Mult) rMulS := by
  intro pins s σ H x y v u Q I rx ry hq
  obtain ⟨z, n, rfl, rfl, ok, q⟩ := hq
  obtain ⟨t, rfl⟩ := rx
  obtain ⟨t', rfl⟩ := ry
  exact SB.mul ok fun t' k => ⟨.str _, H, I.tok _, ⟨_, rfl⟩, q⟩
end
end Itms


/-! sorted of a list of texts with reverse=True: some arrangement of them. -/
namespace TSort
open PySem PyProof.Rows Srt SrtO
section
variable {prog : Program} {w : World} {A : Around} {E : Value → Shared → Prop} {s : Shared}
def sv (v : Value) : List Nat := (strOf v).cps.toList
def ltSv (v u : Value) : Bool := decide (sv v < sv u)
theorem swo_str : Swo ltSv := by
  refine ⟨fun x y h => ?_, fun x y z h1 h2 => ?_⟩
  · have a := of_decide_eq_true (p := sv x < sv y) h
    exact decide_eq_false (p := sv y < sv x) (List.lt_asymm a)
  · have a := of_decide_eq_false (p := sv y < sv x) h1
    have b := of_decide_eq_false (p := sv z < sv y) h2
    exact decide_eq_false (p := sv z < sv x) (List.not_lt.mpr (List.le_trans (List.not_lt.mp a) (List.not_lt.mp b)))
theorem str_cmp {vs : List Value} {ss : List Str} (hI : StrsAre vs ss) : Cmp prog w A s oneType' (fun p => p.1 ∈ vs) (lt2 ltSv) := by
  intro p q hm hm'
  obtain ⟨a, t, e⟩ := hI.all _ hm
  obtain ⟨b, u, e'⟩ := hI.all _ hm'
  show wpAny (model prog w) A (keyLt' oneType' p.1 q.1) (fun r s' => s' = s ∧ r = ltSv p.1 q.1) (fun _ _ => False) s
  rw [e, e', keyLt'_oneType]
  exact oneLt_str ⟨rfl, rfl⟩
theorem strs_sortable {a : Addr} {vs : List Value} {ss : List Str} (hI : StrsAre vs ss) (h2 : 2 ≤ vs.length) : SortableO prog w A s a vs ltSv := by
  intro h' _
  refine ⟨oneType', fun Q E hq => ?_, str_cmp hI⟩
  match vs, hI, h2 with
  | v1 :: v2 :: rest, hI, _ =>
    rw [keyKind_strs hI]
    exact wpAny_pure hq
  | [], _, h => exact absurd h (by decide)
  | [v], _, h => exact absurd h (by simp)
end
end TSort
namespace L2
open PySem PySem.Spec PyProof.Rows
def rSortRS (K : PySem.W.Frag) : List V → List V → Hp → VK → Prop := fun vs zs H Q => ∃ (a : Addr) (ss : List Str), vs = [V.ref a] ∧ zs = [.bl true] ∧ SqL K H a (ss.map V.str) ∧
  ∀ (ss' : List Str) (p : Addr), ss'.Perm ss → H p = none → Q (.ref p) (upd H p (.lst (ss'.map V.str)))
section
variable {X : Cx}
theorem cr_sortRS : CallRK X (.builtin "sorted") [Str.ofString "reverse"] (rSortRS X.K) := by
  intro pins s σ H vs zs us ws Q I r rz h
  obtain ⟨a, ss, rfl, rfl, hs, q⟩ := h
  obtain rfl := Vals.ref1 r
  obtain ⟨w1, rfl, e1⟩ := vals1 rz
  obtain rfl : w1 = Value.bool true := e1
  obtain ⟨its, rv, hl, hz⟩ := I.list hs
  have hi := rv.strs
  refine SrtR.sorted_ordK (b := true) (fun _ => rfl) (PyProof.Rows.args_sorted_rev _ _) (fun _ => PyProof.Rows.args_list_sort_rev _ _) TSort.swo_str hl.isList (by rw [← rv.length]; exact hz) (fun h2 h₁ a' _ _ => TSort.strs_sortable hi h2) fun out h1 h2 => ?_
  have hp : out.Perm its := h2.perm.trans (by simpa using List.reverse_perm its)
  have hp' : (out.toArray.reverse).toList.Perm its := by
    rw [Array.toList_reverse]
    exact (List.reverse_perm _).trans hp
  have hS : StrsAre (out.toArray.reverse).toList ((out.toArray.reverse).toList.map strOf) := strsAre_map _ fun v hv => hi.all _ (hp'.mem_iff.mp hv)
  have hP : ((out.toArray.reverse).toList.map strOf).Perm ss := by
    have := hp'.map strOf
    rwa [hi.strs] at this
  obtain ⟨ep, he'⟩ := PyProof.Rows.sortedAll_at s.heap its (out.toArray.reverse)
  have hlen : (((out.toArray.reverse).toList.map strOf).map V.str).length ≤ sizeLine := by
    rw [List.length_map, hP.length_eq]
    rw [List.length_map] at hz
    exact hz
  have e0 : ((out.toArray.reverse).toList).toArray = out.toArray.reverse := by rw [Array.toArray_toList]
  exact ⟨.ref _, upd H (s.heap.objs.size + 1) (.lst (((out.toArray.reverse).toList.map strOf).map V.str)), I.laid (t' := s.toks) (fun _ _ => PyProof.Rows.sortedAll_old) (Nat.le_succ _) ⟨hlen, _, ep, vals_of_strs hS, by rw [e0]; exact he'⟩, rfl, q _ _ hP (I.hok.fresh (Nat.le_succ _))⟩
end
end L2


/-! set(xs) of a list of ints; an int in it. -/
namespace Txs
open PySem PySem.Spec PyProof.Rows L2
/-- a set of ints: who is in it; n says how many entries it has -/
def SetN (P : Program) (w : World) (a : Addr) (S : Int → Bool) (n : Nat) : HO := .ext fun h => h.SetOf (intKind P w) a S n
theorem setN_new {P : Program} {w : World} {H : Hp} {h : Heap} {a : Addr} {S : Int → Bool} {n : Nat} (z : h.SetOf (intKind P w) a S n) : ObjOk P w H h a (SetN P w a S n) :=
  ⟨z, let ⟨ob, _, _, _, e, _⟩ := z; ⟨ob, e⟩, fun _ _ q k => let ⟨ob, es, ep, t, e, r⟩ := q; ⟨ob, es, ep, t, k ob e, r⟩⟩
theorem met_mem (ns : List Int) : (fun k => (firstMet (fun i => ns.getD i 0) ns.length).any (· == k)) = fun k => decide (k ∈ ns) := by
  funext k
  rw [firstMet_any]
  have e : (List.range ns.length).map (fun i => ns.getD i 0) = ns := by
    apply List.ext_getElem (by simp)
    intro i h1 h2
    simp [h2]
  rw [e]
  by_cases m : k ∈ ns
  · rw [decide_eq_true m]
    exact List.any_eq_true.mpr ⟨k, m, beq_self_eq_true k⟩
  · rw [decide_eq_false m]
    exact List.any_eq_false.mpr fun x hx q => m (by rw [← beq_iff_eq.mp q]; exact hx)
section
variable {X : Cx}
def rSetI (K : PySem.W.Frag) (P : Program) (w : World) : List V → Hp → VK → Prop := fun vs H Q => ∃ (l : Addr) (ns : List Int), vs = [.ref l] ∧ SqL K H l (ns.map V.int) ∧ ns.length + 1 < scanBound ∧
  ∀ p c, H p = none → Q (.ref p) (upd H p (SetN P w p (fun x => decide (x ∈ ns)) c))
theorem cr_setI (hc : X.calm = true) : CallR X (.type "set") (rSetI X.K X.prog X.w) := by
  intro pins s σ H vs us Q I r h
  obtain ⟨l, ns, rfl, hs, room, q⟩ := h
  rw [Vals.ref1 r]
  obtain ⟨its, rv, pl, _⟩ := I.list hs
  have len : its.toArray.size = ns.length := by
    have := rv.length
    rw [List.length_map] at this
    rw [List.size_toArray]
    exact this.symm
  refine call_set_list (I.ok.hd hc) pl.isList (ns := ns) (by simpa using rv.ints) (by rw [len]; exact room) fun h' tk z k => ?_
  rw [len, met_mem] at z
  exact ⟨.ref _, upd H s.heap.objs.size (SetN X.prog X.w s.heap.objs.size (fun x => decide (x ∈ ns)) _), I.laid (fun b o e => k b o (Heap.lt_size e) e) (Nat.le_refl _) (setN_new z), rfl, q _ _ (I.hok.fresh (Nat.le_refl _))⟩
def rInN (P : Program) (w : World) : R2 := fun x y H Q => ∃ k a S n, x = .int k ∧ y = .ref a ∧ H a = some (SetN P w a S n) ∧ Q (.bl (S k)) H
theorem op_inN : OpR X (compareOp .In) (rInN X.prog X.w) := by
  intro pins s σ H x y v u Q I rx ry h
  obtain ⟨k, a, S, n, rfl, rfl, ha, q⟩ := h
  cases ry
  obtain ⟨tk, rfl⟩ := rx
  have z : s.heap.SetOf (intKind X.prog X.w) a S n := (I.hok a _ ha).1
  exact wpAny_inSet_of (intKind_is _ _ _ _) rfl z ⟨.bl (S k), H, I.tok _, rfl, q⟩
end
end Txs


/-! SupErr: the __init__ of an own error that stands below ValueError (directly, or below another own error) and begins by super().__init__(x). -/
namespace SupE
open PySem PySem.Spec PyProof.Rows L2
/-- an own error's __init__ as it stands behind the top: f the function, C its class, cc the cell __class__ -/
structure ErrD (K : PySem.W.Frag) (qual file : PySem.Str) (params : Arguments) (body : List Stmt) (scope : Scope) (C f : Addr) (fd : FuncData) : Prop where
  ex : ∃ (oc : Value) (od : Option Addr) (dV kV doc pm : Value) (an : Option Addr) (ct : Value) (osl : Array (Option Value)) (cc cda : Addr) (c1 : Value) (d1 : Option Addr) (vs : Array Value) (l1 : Array (Option Value)) (tf : Tok) (c2 : Value) (d2 : Option Addr) (l2 : Array (Option Value)),
    fd = PySem.W.ksFn "__init__" qual params body scope dV kV doc pm an (.ref cda) ct cc ∧ K.lookup f = some ⟨oc, od, .func fd, osl⟩ ∧ PySem.W.codeIn K (.ref cda) qual = true ∧
      K.lookup cda = some ⟨c1, d1, .fields vs, l1⟩ ∧ vs[2]? = some (.str file tf) ∧ K.lookup cc = some ⟨c2, d2, .cell (some (.ref C)), l2⟩
/-- what else is asked of the class, the program -/
structure ErrC (P : Program) (K : PySem.W.Frag) (mg : PySem.Str → Option Value) (file : PySem.Str) (C : Addr) : Prop where
  oex : OexC K C
  self : PySem.W.mroIn K C (.ref C) = some true
  sup : PySem.W.ks_superIn K C C "__init__" = some (some (.builtin "ValueError.__init__"))
  ve : PySem.W.subIn K (.ref C) (.type "ValueError") = some true
  opq : PySem.W.nsIn K cStatics "thirdparty.any" = some none
  nosuper : mg "super" = none
  file : ((P.main.file : PySem.Str) == file) = true
  top : (P.main.scope.names.lookup ("super" : PySem.Str)).isSome = false
/-- the scope of such a def with two parameters -/
structure ErrS (n0 n1 : PySem.Str) (sc : Scope) (ps : Arguments) : Prop where
  kind : sc.kind = .function
  co : sc.isCoroutine = false
  gen : sc.isGenerator = false
  ne : n0 ≠ n1
  l0 : sc.names.lookup n0 = some .local
  l1 : sc.names.lookup n1 = some .local
  sup : sc.names.lookup ("super" : PySem.Str) = some .globalImplicit
  cls : sc.names.lookup ("__class__" : PySem.Str) = some .free
  all : ∀ y ∈ sc.names, y.2 ≠ .cell ∧ (y.2 = .free → y.1 = "__class__")
  arg : ∃ ar, (ps.posonlyargs ++ ps.args).head? = some ar ∧ ar.arg = n0
/-- the context of such a body -/
def supX (P : Program) (w : World) (K : PySem.W.Frag) (mg : PySem.Str → Option Value) (base : Heap) (N : List PySem.Str) (qual : PySem.Str) (scope : Scope) (f cda cc : Addr) (A : Around) (outer : List Env) (s : Shared) (H : Hp) : Cx where
  prog := P
  w := w
  K := K
  mg := mg
  base := base
  A := A.deeper (PySem.W.ksEnv qual scope s.heap.objs.size f (.ref cda) cc)
  N := N
  s_0 := s
  H_0 := H
  env := PySem.W.ksEnv qual scope s.heap.objs.size f (.ref cda) cc
  outer := outer
  stack := PySem.W.ksEnv qual scope s.heap.objs.size f (.ref cda) cc :: outer
  ex := []
  calm := true
  fn := fun _ => false
  pn := []
  xe := fun _ _ => False
section
variable {P : Program} {w : World} {K : PySem.W.Frag} {mg : PySem.Str → Option Value} {base : Heap} {N : List PySem.Str} {qual n0 n1 : PySem.Str} {scope : Scope} {params : Arguments} {f cda cc : Addr} {A : Around} {outer : List Env} {s : Shared} {H : Hp} {u0 u1 : Value} {v0 v1 : V}
theorem inv_sup {o : Obj} {cv : Option Value} {h1 : Heap} {tk : Nat} (S : ErrS n0 n1 scope params) (hd : A.handled = none) (e0 : Env0 P w K mg base A outer s H) (lc : K.lookup cc = some o) (oc : o.data = .cell cv) (r0 : RelV v0 u0) (r1 : RelV v1 u1)
    (ns : h1.Ns s.heap.objs.size (fun x => ([(n0, u0), (n1, u1)] : List (PySem.Str × Value)).reverse.lookup x)) (k : ∀ b u, s.heap.get? b = some u → h1.get? b = some u) :
    Inv (supX P w K mg base [n0, n1] qual scope f cda cc A outer s H) [] [some v0, some v1] H { s with heap := h1, toks := tk } := by
  have cb : base.get? cc = some o := e0.mod.kin _ _ lc
  have cells : ∀ {x : PySem.Str} {c : Addr}, (supX P w K mg base [n0, n1] qual scope f cda cc A outer s H).env.cells.lookup x = some c → c = cc ∧ x = "__class__" := fun {x c} h => by
    have m := PySem.mem_of_lookup (show ([("__class__", cc)] : List (PySem.Str × Addr)).lookup x = some c from h)
    have := List.mem_singleton.mp m
    exact ⟨congrArg Prod.snd this, congrArg Prod.fst this⟩
  have noA : ∀ b : Addr, b ∉ (supX P w K mg base [n0, n1] qual scope f cda cc A outer s H).ex := fun b z => absurd (show b ∈ ([] : List Addr) from z) (by simp)
  refine ⟨⟨e0.mod, S.kind, rfl, rfl, Nat.le_refl _, fun x y c h1 h2 => by rw [(cells h1).2, (cells h2).2], fun x hx => ?_, fun x c z => (nomatch z), fun _ => hd, Around.frames_deeper e0.frames, .inr ⟨rfl, rfl⟩, fun b z => absurd z (noA b), e0.bs, e0.bsz, fun b _ _ => noA b, fun b z => absurd z (noA b), e0.funs, e0.frf⟩,
    rfl, e0.bare, Un.kept k, ⟨_, ns, fun i x v h1 h2 h3 => ?_⟩, fun x c h => ⟨cv, ?_⟩, e0.hok.fresh (Nat.le_refl _), fun x c h => ?_, fun p hp => absurd (show p ∈ ([] : List (Addr × Obj)) from hp) (by simp), e0.hok.kept k, rfl⟩
  · have hx : scope.names.lookup x = some .cell ∨ scope.names.lookup x = some .free := hx
    rcases hx with hx | hx
    · exact absurd rfl (S.all _ (PySem.mem_of_lookup hx)).1
    · have := (S.all _ (PySem.mem_of_lookup hx)).2 rfl
      exact ⟨cc, by rw [show x = "__class__" from this]; rfl⟩
  · match i, h1, h2 with
    | 0, h1, h2 =>
      cases (Option.some.inj h1)
      cases (Option.some.inj (Option.some.inj h2))
      refine ⟨u0, r0, .inl ⟨S.l0, ?_⟩⟩
      show ([(n1, u1), (n0, u0)] : List (PySem.Str × Value)).lookup n0 = some u0
      have ne : (n0 == n1) = false := by simpa using S.ne
      simp [List.lookup, ne]
    | 1, h1, h2 =>
      cases (Option.some.inj h1)
      cases (Option.some.inj (Option.some.inj h2))
      refine ⟨u1, r1, .inl ⟨S.l1, ?_⟩⟩
      show ([(n1, u1), (n0, u0)] : List (PySem.Str × Value)).lookup n1 = some u1
      simp [List.lookup]
    | i + 2, h1, h2 => cases h1
  · rw [(cells h).1]
    exact ⟨o, k _ _ (e0.bs _ _ cb).1, oc⟩
  · rw [(cells h).1]
    exact (e0.bs _ _ cb).2
end
/-! ### the wrapper that super().__init__ gives, called -/
section
variable {prog : Program} {w : World} {A : Around} {E : Value → Shared → Prop} {h : Heap} {g : Array GenState} {d : Drawn} {t : Nat} {os : OsState}
theorem wr_call {nm q : PySem.Str} {C N : Addr} {bs bm : List Value} {sn : List PySem.Str} {sub : List Value} {ab : Bool} {col : Option Bool} {dd : Option Addr} {k0 k1 k2 k3 k5 : Option Value} {u e t0 : Addr} {us : List Value} {Q : Value → Shared → Prop}
    (hm : PySem.HandSPX.refsVE bm = true) (hC : h.get? C = some (excClassObj nm q C N bs bm true sn sub ab col dd k0 k1 k2 k3 k5 "ValueError.__new__")) (he : h.get? e = some (PySem.HandSPX.excO C t0))
    (hu : h.get? u = some (PySem.W.kxs_mw "ValueError.__init__" e)) (hl : us.length ≤ sizeLine)
    (hq : ∀ h' t1, (∀ b o, b ≠ e → h.get? b = some o → h'.get? b = some o) → h'.get? e = some (PySem.HandSPX.excO C t1) → Q .none ⟨h', g, d, t, os⟩) :
    wpAny (model prog w) A (call (.ref u) us) Q E ⟨h, g, d, t, os⟩ := by
  have VE := PySem.F.excBase_ValueError
  have y1 : (Value.type "method-wrapper" == Value.type "method") = false := by decide
  have y2 : (Value.type "method-wrapper" == Value.type "builtin_function_or_method") = false := by decide
  refine wpAny_call (codeAny_of_tree ?run)
  change wpAny _ A.in1 (callAny (.ref u) ⟨us, []⟩) _ _ _
  simp only [callAny]
  refine wpAny_bind (wpAny_load hu ?look)
  simp only [PySem.W.kxs_mw, y1, y2, beq_self_eq_true, Bool.or_true, if_true]
  refine PySem.W.KFB.if_so (by decide) (wpAny_bind (PySem.W.check_bound_init VE.toExcCallFacts hC he rfl (wpAny_bind (wpAny_pure (wpAny_pure ?go)))))
  exact ⟨plainId_quiet VE.init.plain _, codeAny_builtin VE.initEntry (PySem.W.exc_init_tree (cls := .ref C) (t0 := t0) (dv := none) (c2 := .none) (c3 := .none) (b4 := .bool false) he hl fun h' a b _ => hq h' _ a b)⟩
end
/-! ### the rule -/
/-- self and the value: the error gets its dict with the one field -/
def spErr (C : Addr) (fld : PySem.Str) (px : V → Prop) : Sp := fun vs H Q _ => ∃ (a : Addr) (x : V), vs = [.ref a, x] ∧ px x ∧ H a = some (exo a C none) ∧ ∀ dx, H dx = none → dx ≠ a → Q .non (L2.upd (L2.upd H dx (exd dx [(fld, x)])) a (exo a C (some dx)))
section
variable {P : Program} {w : World} {K : PySem.W.Frag} {mg : PySem.Str → Option Value} {base : Heap}
theorem wr_inv {X : Cx} {pins : List (Addr × Obj)} {σ : L2.St} {H : Hp} {s : Shared} {a C u : Addr} {us : List Value} {Q : Value → Shared → Prop} {E : Value → Shared → Prop} {A : Around} (T : OexC X.K C) (I : Inv X pins σ H s) (e : H a = some (exo a C none))
    (hu : s.heap.get? u = some (PySem.W.kxs_mw "ValueError.__init__" a)) (hl : us.length ≤ sizeLine) (h : ∀ s', Inv X pins σ H s' → Q .none s') : wpAny (model X.prog X.w) A (call (.ref u) us) Q E s := by
  obtain ⟨_, _, _, _, bm, _, _, _, _, _, _, _, _, _, _, hC, hbm⟩ := T.cls
  obtain ⟨t1, ho⟩ := exo_at I.hok e
  obtain ⟨hp, g, d, t, os⟩ := s
  have same : L2.upd H a (exo a C none) = H := funext fun b => if z : b = a then by rw [z, upd_same, e] else upd_ne z
  refine wr_call hbm (I.kIn _ _ hC) ho hu hl fun h2 _ k hx => h _ ?_
  exact same ▸ I.write (x := a) (e := a) (t' := t) (by rw [e]; trivial) (Or.inl rfl) k ⟨_, hx⟩ (exo_ok hx)
theorem ok_sup {qual file n0 n1 fld : PySem.Str} {params : Arguments} {body : List Stmt} {scope : Scope} {C f : Addr} {fd : FuncData} {e0 : Expr} {p0 p1 p2 p3 p4 p5 p6 p7 p8 : Pos} {px : V → Prop} (D : ErrD K qual file params body scope C f fd) (Cc : ErrC P K mg file C) (S : ErrS n0 n1 scope params)
    (hb : body = [.Expr (.Call (.Attribute (.Call (.Name "super" p0) [] [] p1) "__init__" p2) [e0] [] p3) p4, .Assign [.Attribute (.Name n0 p5) fld p6] (.Name n1 p7) p8]) (hno : PySem.W.findIn K (.ref C) fld = some none)
    (d0 : (n0 == ("__debug__" : PySem.Str)) = false ∧ (n0 == ("__classdict__" : PySem.Str)) = false) (d1 : (n1 == ("__debug__" : PySem.Str)) = false ∧ (n1 == ("__classdict__" : PySem.Str)) = false)
    (pl : Env → Sem Bool) (hev : ∀ env : Env, eval (.Call (.Attribute (.Call (.Name "super" p0) [] [] p1) "__init__" p2) [e0] [] p3) env = (do
      let sup ← attributeBase (.Call (.Name "super" p0) [] [] p1) "__init__" env (eval (.Call (.Name "super" p0) [] [] p1) env)
      standAt p2.atName
      let (m, first) ← holding [sup] (getMethod sup "__init__" (pl env))
      callWith p3 m first (backTo p3 (starEach [e0] env)) []))
    (hsw : ∀ env : Env, swapsWith (.Call (.Attribute (.Call (.Name "super" p0) [] [] p1) "__init__" p2) [e0] [] p3) none p4.line env = pure false)
    (hsw2 : ∀ env : Env, swapsWith (.Name n1 p7) (some (.Attribute (.Name n0 p5) fld p6)) p8.line env = pure false)
    (hst : ∀ env : Env, starEach [e0] env = (false, eval e0 env) :: starEach [] env)
    (h0 : ∀ (cda cc : Addr) (A : Around) (outer : List Env) (s : Shared) (H : Hp), ∃ te, PE (supX P w K mg base [n0, n1] qual scope f cda cc A outer s H) e0 te ∧ ∀ (a : Addr) (x : V) (H' : Hp) (R : VK), px x → (∀ v, R v H') → te [some (.ref a), some x] H' R) :
    FnOk P w K mg base CX0 2 f fd [n0, n1] (spErr C fld px) := by
  refine ⟨fun vs H Q E h => ?_, fun A outer s H args us vs Q E hr e0' hbn r hsp => ?_⟩
  · obtain ⟨a, x, rfl, _⟩ := h
    rfl
  obtain ⟨a, x, rfl, hx, ha, q⟩ := hsp
  cases r with
  | @cons _ u0 _ _ r0 r' =>
  cases r' with
  | @cons _ u1 _ _ r1 r2 =>
  cases r2
  obtain rfl : u0 = Value.ref a := r0
  obtain ⟨oc, od, dV, kV, doc, pm, an, ct, osl, cc, cda, c1, d1', vs, l1, tf, c2, d2, l2, rfl, lk, hcd, lcda, hvs, lcc⟩ := D.ex
  obtain ⟨ar, har, harg⟩ := S.arg
  have bsk : ∀ b o, base.get? b = some o → s.heap.get? b = some o := fun b o e => (e0'.bs b o e).1
  have KX : K.In s.heap := e0'.mod.kin.keeps bsk
  subst hb
  refine PySem.ks_codeAny_call_defAt (binds := [(n0, .ref a), (n1, u1)]) hr.depth (KX _ _ lk) rfl (e0'.mod.nolimit.keeps bsk) (PySem.W.codeRec_of KX hcd) rfl hbn (fun y hy => (S.all y hy).1) (fun y hy => ?_) (fun h1 ns k => ?_) S.co S.gen S.kind
  · rcases List.mem_cons.mp hy with z | hy
    · rw [z]; exact S.l0
    · rw [List.mem_singleton.mp hy]; exact S.l1
  have I := inv_sup (P := P) (w := w) (qual := qual) (f := f) (cda := cda) (tk := s.toks + 2) (H := H) (v0 := .ref a) (v1 := x) S hr.hd e0' lcc rfl rfl r1 ns k
  obtain ⟨te, he, hte⟩ := h0 cda cc A outer s H
  obtain ⟨_, _, _, _, bm, _, _, _, _, _, _, _, _, _, _, hC, hbm⟩ := Cc.oex.cls
  have K1 : K.In h1 := KX.keeps k
  have quiet : interactive (supX P w K mg base [n0, n1] qual scope f cda cc A outer s H).env = false := by
    show (scope.kind == ScopeKind.module && _) = false
    rw [S.kind]
    rfl
  have hxa := exo_at I.hok ha
  obtain ⟨t1, ho⟩ := hxa
  refine PySem.ks_wpAt_execs_cons (PySem.ks_wpAt_Expr_any (PySem.ks_wpAt_MethodCall (PySem.ks_wpAt_super_base S.sup S.cls rfl rfl (K1 _ _ lk) rfl har rfl (K1 _ _ lcda) rfl hvs Cc.file Cc.top ?_) (hev _)) quiet (hsw _))
  obtain ⟨mb, nb, bb⟩ := e0'.mod.blt
  have bs1 : ∀ b o, base.get? b = some o → h1.get? b = some o := fun b o e => k _ _ (bsk b o e)
  refine PySem.W.ks_loadName_global S.kind S.sup (PySem.Calls.loadGlobal_builtin (e0'.mod.glob.keeps bs1) Cc.nosuper (nb.keeps bs1) ((bb "super" (by decide)).trans (by decide +kernel)) ⟨rfl, ?_⟩)
  refine wpAny_loadName_free S.kind S.cls rfl ⟨_, K1 _ _ lcc, rfl⟩ ?_
  refine wpAny_loadName_local S.kind (by rw [harg]; exact S.l0) ns (v := .ref a) ?_ ?_
  · rw [harg]
    show ([(n1, u1), (n0, Value.ref a)] : List (PySem.Str × Value)).lookup n0 = some (.ref a)
    have ne : (n0 == n1) = false := by simpa using S.ne
    simp [List.lookup, ne]
  refine PySem.ks_wpAny_isType_cls (K1 _ _ hC) rfl ⟨rfl, ?_⟩
  refine PySem.ks_wpAny_call_super (K1 _ _ hC) rfl ho rfl (fun c z => by cases z) (PySem.W.looks_mroIn K1 Cc.self) fun h2 e2 k2 => ?_
  have K2 : K.In h2 := K1.keeps k2
  obtain ⟨cd, hcl⟩ : ∃ cd, PySem.W.clsIn K C = some cd := ⟨_, by unfold PySem.W.clsIn; rw [hC] <;> rfl⟩
  have along := Cc.sup
  unfold PySem.W.ks_superIn at along
  rw [hcl] at along
  have aC : a ≠ C := fun z => by
    have n := (e0'.bs _ _ (e0'.mod.kin _ _ hC)).2
    rw [← z, ha] at n
    cases n
  have at2 : PySem.W.InstAt h2 a (PySem.HandSPX.excO C t1) C none := ⟨k2 _ _ ho, rfl, rfl, trivial⟩
  refine PySem.W.kxs_getMethod PySem.W.kxs_ValueError e2 (PySem.W.looks_opaque K2 Cc.opq) (l₀ := cd.mro) ((PySem.W.looks_clsIn K2 hcl).andThen .now) rfl K2 along (at2.type.andThen (PySem.W.looks_subIn K2 Cc.ve)) aC rfl ?_
  have up : ∀ b o, h1.get? b = some o → (h2.push (PySem.W.kxs_mw "ValueError.__init__" a)).get? b = some o := fun b o e => Heap.get?_push_of_some _ (k2 _ _ e)
  have lt2 : h1.objs.size < h2.objs.size := Heap.lt_size e2
  have gu : (h2.push (PySem.W.kxs_mw "ValueError.__init__" a)).get? h2.objs.size = some (PySem.W.kxs_mw "ValueError.__init__" a) := Heap.get?_push_at rfl rfl
  have I2 := (I.kept (t' := s.toks + 2 + 1) up).pins_of (pins' := [(h2.objs.size, PySem.W.kxs_mw "ValueError.__init__" a)]) fun p hp => by
    rw [List.mem_singleton.mp hp]
    exact ⟨gu, I.hok.fresh (Nat.le_of_lt lt2), Nat.ne_of_gt (Nat.lt_trans I.lt lt2), I.nofs (Nat.le_of_lt lt2), fun v z => by cases z⟩
  have args := (pa_cons he pa_nil (hst _)).run p3 _ _ _ H (fun vs H2 => H2 = H ∧ vs.length = 1) I2 (hte a x H _ hx fun v => ⟨rfl, rfl⟩)
  rw [hst] at args
  show wpAny (model P w) _ (callWith p3 (.ref h2.objs.size) [] (backTo p3 (starEach [e0] (supX P w K mg base [n0, n1] qual scope f cda cc A outer s H).env)) []) _ _ _
  rw [hst]
  refine PySem.W.kxs_callWith (i := "ValueError.__init__") (x := a) rfl (PySem.Calls.evalArgs_plain (wpAny_mono args (fun us s3 hs3 => ?_) fun _ _ z => z.elim))
  obtain ⟨ys, H3, I3, rv, rfl, one⟩ := hs3
  have pin := (I3.pin (h2.objs.size, PySem.W.kxs_mw "ValueError.__init__" a) (by simp [supX])).1
  refine ⟨pin, wr_inv (X := supX P w K mg base [n0, n1] qual scope f cda cc A outer s H3) Cc.oex I3 ha pin (by rw [List.nil_append, ← rv.length, one]; decide) fun s4 I4 => ?_⟩
  refine wpAt_of_wpAny (wpAny_mono ((pss_one (ps_ost (f := fld) (p' := p6) (pos := p8) (pe_var (i := 0) (pos := p5) rfl (.inl S.l0) d0.1 d0.2) (pe_var (i := 1) (pos := p7) rfl (.inl S.l1) d1.1 d1.2) (hsw2 _))).run _ s4 _ H3 ⟨fun _ H4 => Q .non H4, fun _ _ => False, fun _ _ => False, fun _ _ => False⟩ I4
    ⟨_, rfl, _, rfl, a, C, rfl, Cc.oex, hno, .inl ⟨ha, q⟩⟩) (fun fl s5 hs5 => ?_) fun _ _ z => z.elim)
  cases fl with
  | next =>
    obtain ⟨_, H5, J, q5⟩ := hs5
    exact ⟨.non, H5, J.os, J.bare, J.base, J.hok, rfl, q5⟩
  | ret u =>
    obtain ⟨_, _, _, _, _, z⟩ := hs5
    exact z.elim
  | brk =>
    obtain ⟨_, _, _, z⟩ := hs5
    exact z.elim
  | cont =>
    obtain ⟨_, _, _, z⟩ := hs5
    exact z.elim
end
end SupE


/-! TryAs: a try whose except clauses, one or several, each give the error a name. -/
namespace TrA
open PySem PySem.Spec PyProof.Rows L2
/-- behind a suite its name (slot i) is gone -/
def aft (i : Nat) (D : Ends) : Ends := ⟨fun σ H => D.nx (σ.set i none) H, D.rt, fun σ H => D.bk (σ.set i none) H, fun σ H => D.ct (σ.set i none) H⟩
abbrev Cla := Value × Nat × (Addr → Value → Option Addr → TS)
/-- what the clauses wish of an error, the first one that names its class -/
def wAll (K : PySem.W.Frag) (Wo : WX) (D : Ends) : List Cla → WX
  | [] => Wo
  | q :: r => fun cls d σ H => ∃ b, PySem.W.exmOne K cls q.1 = some b ∧ (b = true → ∀ a, H a = none → q.2.2 a cls d (aft q.2.1 D) (σ.set q.2.1 (some (.ref a))) H) ∧ (b = false → wAll K Wo D r cls d σ H)
inductive Clas (X : Cx) : List ExceptHandler → List Cla → Prop
  | nil : Clas X [] []
  | cons {x n : Str} {c : Value} {i : Nat} {t : Addr → Value → Option Addr → TS} {b0 : Stmt} {bs : List Stmt} {p1 p2 : Pos} {hs : List ExceptHandler} {l : List Cla} (nm : Names X x c) (sl : X.N[i]? = some n) (lo : X.env.kindOf n = some .local)
      (su : ∀ (a : Addr) (o : Obj) (cls : Value) (d : Option Addr) (pn : List (Addr × Obj)), Zc cls d o → (∃ vs, o.data = .fields vs) → PSs (X.suite a ((a, o) :: pn)) (b0 :: bs) (t a cls d)) (more : Clas X hs l) :
      Clas X (.ExceptHandler (some (.Name x p1)) (some n) (b0 :: bs) p2 :: hs) ((c, i, t) :: l)
/-- an error at a, caught by the running frame -/
structure Caught (X : Cx) (a : Addr) (B : Heap) (s0 : Shared) (pins : List (Addr × Obj)) (σ : L2.St) (H : Hp) (cls : Value) (d : Option Addr) (s : Shared) : Prop where
  i0 : Inv X pins σ H s0
  nb : ∀ b o, s0.heap.get? b = some o → b ∉ frs X.stack → B.get? b = some o
  up : s0.heap.UpToSlots s.heap
  fl : PySem.HandSPX.FlyingZ B (X.env :: X.outer) a (Zc cls d) s.heap
  na : H a = none
  os : s.os = s0.os
  ba : AllBare s.gens
section
variable {X : Cx} {a : Addr} {B : Heap} {s0 s : Shared} {pins : List (Addr × Obj)} {σ : L2.St} {H : Hp} {cls : Value} {d : Option Addr}
theorem Caught.inv (c : Caught X a B s0 pins σ H cls d s) : Inv X pins σ H s := c.i0.landed c.nb c.fl.1 c.up c.os c.ba
theorem Caught.at {h : Heap} (c : Caught X a B s0 pins σ H cls d s) (fl : PySem.HandSPX.FlyingZ B (X.env :: X.outer) a (Zc cls d) h) (up : s.heap.UpToSlots h) : Caught X a B s0 pins σ H cls d { s with heap := h } :=
  ⟨c.i0, c.nb, c.up.trans up, fl, c.na, c.os, c.ba⟩
/-- the suite's state: the error's object, which is no frame's -/
theorem Caught.suite (hs : X.stack = X.env :: X.outer) (hf : X.env.frame = some X.env.locals) (c : Caught X a B s0 pins σ H cls d s) :
    ∃ o vs, s.heap.get? a = some o ∧ Zc cls d o ∧ o.data = .fields vs ∧ Inv (X.suite a ((a, o) :: (X.pn ++ pins))) [] σ H s := by
  obtain ⟨o, vs, e, z, dd⟩ := c.fl.there
  have out : a ∉ frs (X.env :: X.outer) := fun m => by
    obtain ⟨_, u, e1, no⟩ := c.fl.2.2.1.mem m
    have e2 := e.symm.trans e1
    cases e2
    exact no _ dd
  have n1 : a ≠ X.env.locals := fun q => out (List.mem_filterMap.mpr ⟨X.env, List.mem_cons_self, by rw [hf, q]⟩)
  have n2 : a ∉ X.fs := fun m => by
    obtain ⟨v, hv, q⟩ := List.mem_filterMap.mp m
    exact out (List.mem_filterMap.mpr ⟨v, List.mem_cons_of_mem _ hv, q⟩)
  exact ⟨o, vs, e, z, dd, c.inv.suite e dd c.na n1 n2⟩
/-- the clauses, tried one behind the other -/
theorem clauses (hs : X.stack = X.env :: X.outer) (hf : X.env.frame = some X.env.locals) (nd : X.N.Nodup) {Wo : WX} (tk : Takes X Wo) {D : Ends} : ∀ {hds : List ExceptHandler} {l : List Cla}, Clas X hds l →
    ∀ {s : Shared}, Caught X a B s0 pins σ H cls d s → wAll X.K Wo D l cls d σ H → wpAny (model X.prog X.w) X.A (handleBy (.ref a) X.env hds) (SP X pins D) X.xe s := by
  intro hds l k
  induction k with
  | nil =>
    intro s c w
    refine wpAny_handleBy_nil ?_
    obtain ⟨_, _, _, o, vs, T, oT, ts, e, _, dd, one, _⟩ := id c.fl
    unfold PySem.passOn
    refine wpAny_bind (wpAny_field e dd one ?_)
    have some_ : ¬ ((Value.ref T == Value.none) = true) := by simp
    rw [if_neg some_]
    have out : wpAny (model X.prog X.w) X.A (setFlight (.ref a) X.env.frame) (fun _ z => wpAny (model X.prog X.w) X.A (throw (.ref a) : Sem Flow) (SP X pins D) X.xe z) X.xe s := by
      rw [hf]
      exact PySem.HandSPX.setFlight_upZ c.fl fun h hh up => wpAny_throw (tk _ _ ⟨a, B, s0, pins, σ, H, cls, d, rfl, c.i0, c.nb, c.up.trans up, .inr (.inr (by rw [hs]; exact hh)), c.na, c.os, c.ba, w⟩)
    first
      | exact wpAny_bind (wpAny_pure (wpAny_bind out))
      | exact wpAny_bind out
  | @cons x n cl i t b0 bs p1 p2 hds l nm sl lo su more ih =>
    intro s c w
    obtain ⟨b, hb, yes, no⟩ := w
    obtain ⟨o, vs, e, z, dd, S⟩ := c.suite hs hf
    have ty : PySem.W.Looks (model X.prog X.w) s.heap (typeOf (.ref a)) cls := fun _ _ _ _ k q => wpAny_typeOf_ref (k _ _ e) (by rw [z.1]; exact q)
    have mt := PySem.W.exm_one (M := model X.prog X.w) c.inv.kIn ty hb
    have name : ∀ {Q : Value → Shared → Prop} {E : Value → Shared → Prop}, Q cl s → wpAny (model X.prog X.w) (X.A.mark (some (.ref a))) (eval (.Name x p1) X.env) Q E s := fun {Q E} q => by
      obtain ⟨g, db, m | ⟨m, bv, nn⟩⟩ := nm
      · exact ld_glob (X := X.suite a ((a, o) :: (X.pn ++ pins))) S g m q db
      · exact ld_blt (X := X.suite a ((a, o) :: (X.pn ++ pins))) S g m bv q nn db
    refine wpAny_handleBy_cons (codeAny_handlers_test (name (mt.here ?_))) fun q => nomatch q
    cases b with
    | false => exact ih c (no rfl)
    | true =>
      refine codeAny_handlers_suite_as (PySem.HandSPX.lands_againZ c.fl fun h fl up => ?_)
      have c2 := c.at fl up
      obtain ⟨o2, vs2, e2, z2, dd2, S2⟩ := c2.suite hs hf
      refine store_ok (X := X.suite a ((a, o2) :: (X.pn ++ pins))) (v := .ref a) S2 nd sl (.inl lo) rfl (fun s3 S3 => ?_) (.inr lo)
      refine wpAny_mono ((su a o2 cls d (X.pn ++ pins) z2 ⟨vs2, dd2⟩).run [] s3 _ H (aft i D) S3 (yes rfl a c.na)) (fun f s4 q => ?_) fun _ _ z => z.elim
      cases f with
      | next =>
        obtain ⟨σ4, H4, S4, q4⟩ := q
        exact gone_ok (S4.unsuite c.inv.ok) nd sl lo fun s5 I5 => ⟨_, _, I5, q4⟩
      | brk =>
        obtain ⟨σ4, H4, S4, q4⟩ := q
        exact gone_ok (S4.unsuite c.inv.ok) nd sl lo fun s5 I5 => ⟨_, _, I5, q4⟩
      | cont =>
        obtain ⟨σ4, H4, S4, q4⟩ := q
        exact gone_ok (S4.unsuite c.inv.ok) nd sl lo fun s5 I5 => ⟨_, _, I5, q4⟩
      | ret u =>
        obtain ⟨v4, σ4, H4, S4, r4, q4⟩ := q
        exact gone_ok (S4.unsuite c.inv.ok) nd sl lo fun s5 I5 => ⟨_, _, _, I5, r4, q4⟩
end
section
variable {X : Cx} {body : List Stmt} {h0 : ExceptHandler} {hds : List ExceptHandler} {l : List Cla} {pos : Pos} {tb : WX → TS} {Wo : WX}
/-- try: body, except x as n: .., except y as m: .. -/
theorem ps_tryA (hs : X.stack = X.env :: X.outer) (hf : X.env.frame = some X.env.locals) (nd : X.N.Nodup) (tk : Takes X Wo)
    (hb : ∀ (W : WX) (pn : List (Addr × Obj)) (xe : Value → Shared → Prop), Takes (X.tr pn xe) W → PassesOwn (model X.prog X.w) X.A X.env xe → PSs (X.tr pn xe) body (tb W)) (k : Clas X (h0 :: hds) l) :
    PS X (.Try body (h0 :: hds) [] [] pos) (fun D σ H => tb (wAll X.K Wo D l) D σ H) := by
  refine ⟨fun pins s σ H D I h => ?_⟩
  have fr : X.A.frames = some (X.env :: X.outer) := I.ok.frames.trans (by rw [hs])
  refine wpAny_Try_except (wpAny_mono ((hb (wAll X.K Wo D l) (X.pn ++ pins) (fun v z => wpAny (model X.prog X.w) X.A (noteFrame v X.env) (fun _ z2 => wpAny (model X.prog X.w) X.A (setFlight v none) (fun _ z3 =>
    wpAny (model X.prog X.w) X.A (handleBy v X.env (h0 :: hds)) (SP X pins D) X.xe z3) X.xe z2) X.xe z) (fun u z up => ?_) PassesOwn.looking).run [] s σ H D (I.toTry _) h) (fun f z q => ?_) fun _ _ q => q)
  · obtain ⟨a, B, z0, pn, σ1, H1, cls, d, rfl, J, nb, slots, sky, na, os, ba, w⟩ := up
    have sky' : Sky B (X.env :: X.outer) a (Zc cls d) X.env.locals z.heap := hs ▸ sky
    exact Sky.land Zc.steady fr hf sky' fun h fl more => clauses hs hf nd tk k (s := { z with heap := h }) ⟨J.ofTry I.ok, nb, slots.trans more, fl, na, os, ba⟩ w
  · cases f with
    | next =>
      obtain ⟨σ1, H1, J, q⟩ := q
      exact wpAny_execs_nil ⟨_, _, J.ofTry I.ok, q⟩
    | brk =>
      obtain ⟨σ1, H1, J, q⟩ := q
      exact ⟨_, _, J.ofTry I.ok, q⟩
    | cont =>
      obtain ⟨σ1, H1, J, q⟩ := q
      exact ⟨_, _, J.ofTry I.ok, q⟩
    | ret u =>
      obtain ⟨v, σ1, H1, J, r, q⟩ := q
      exact ⟨_, _, _, J.ofTry I.ok, r, q⟩
end
end TrA


/-! Errs: own errors below ValueError: what the top leaves of them, raised, caught. -/
namespace Ers
open PySem PySem.Spec PyProof.Rows L2
/-! ### what the top leaves -/
/-- one own error: its class's name, its __init__'s text -/
structure DefE where
  cls : PySem.Str
  qual : PySem.Str
  params : Arguments
  body : List Stmt
  scope : Scope
def DefE.at_ (d : DefE) (K : PySem.W.Frag) : Addr := He.ma K (He.ga K d.cls) "__init__"
abbrev FnE : Type := Option (PySem.Str × PySem.Str × Arguments × FuncBody × Scope × Addr × List PySem.Str × Addr)
def fnE (K : PySem.W.Frag) (a : Addr) : FnE := match K.lookup a with
  | some ⟨_, _, .func fd, _⟩ => some (fd.name, fd.qualname, fd.params, fd.body, fd.scope, fd.globals, fd.closure.map (·.1), fd.builtins)
  | _ => none
def DefE.val (d : DefE) : FnE := some ("__init__", d.qual, d.params, .stmts d.body, d.scope, mainGlobals, ["__class__"], builtinsNs)
def clsB (K : PySem.W.Frag) (C : Addr) : Bool := match K.lookup C with
  | some ⟨.type t, _, .cls cd, sl⟩ => decide (t = "type") && (match cd.mro, sl.toList with
    | .ref c :: bm, [_, _, _, _, some (.builtin n), _] => decide (c = C) && (decide (n = "ValueError.__new__") && (cd.hasDict && (!cd.hasDel && PySem.HandSPX.refsVE bm)))
    | _, _ => false)
  | _ => false
/-- the class in the closure's cell -/
def celB (K : PySem.W.Frag) (C : Addr) (l : List (PySem.Str × Addr)) : Bool := match l with
  | [(_, cc)] => (match K.lookup cc with
    | some ⟨_, _, .cell (some (.ref D)), _⟩ => decide (D = C)
    | _ => false)
  | _ => false
theorem celB_ok {K : PySem.W.Frag} {C : Addr} {l : List (PySem.Str × Addr)} (h : celB K C l = true) : ∃ x cc c d s, l = [(x, cc)] ∧ K.lookup cc = some ⟨c, d, .cell (some (.ref C)), s⟩ := by
  unfold celB at h
  split at h
  · rename_i x cc
    split at h
    · rename_i c d D s e
      have e2 := of_decide_eq_true h
      subst e2
      exact ⟨x, cc, c, d, s, rfl, e⟩
    · cases h
  · cases h
/-- the file that the code names -/
def filB (K : PySem.W.Frag) (file : PySem.Str) (v : Value) : Bool := match v with
  | .ref cda => (match K.lookup cda with
    | some ⟨_, _, .fields vs, _⟩ => (match vs.toList with
      | _ :: _ :: .str z _ :: _ => decide (z = file)
      | _ => false)
    | _ => false)
  | _ => false
theorem filB_ok {K : PySem.W.Frag} {file : PySem.Str} {v : Value} (h : filB K file v = true) : ∃ cda c d vs s t, v = .ref cda ∧ K.lookup cda = some ⟨c, d, .fields vs, s⟩ ∧ vs[2]? = some (.str file t) := by
  unfold filB at h
  split at h
  · rename_i cda
    split at h
    · rename_i c d vs s e
      split at h
      · rename_i a1 a2 z tz rest ez
        have ef := of_decide_eq_true h
        subst ef
        exact ⟨cda, c, d, vs, s, tz, rfl, e, by rw [← Array.getElem?_toList, ez]; rfl⟩
      · cases h
    · cases h
  · cases h
def noneB : Value → Bool
  | .none => true
  | _ => false
theorem noneB_ok {v : Value} (h : noneB v = true) : v = .none := by
  cases v <;> first | rfl | cases h
def cloB (K : PySem.W.Frag) (C f : Addr) (qual file : PySem.Str) : Bool := match K.lookup f with
  | some ⟨_, _, .func fd, _⟩ => PySem.W.codeIn K fd.code qual && (celB K C fd.closure && (filB K file fd.code && noneB fd.defaults))
  | _ => false
def erB (K : PySem.W.Frag) (C : Addr) (qual file fld : PySem.Str) : Bool :=
  clsB K C && (cloB K C (He.ma K C "__init__") qual file && (He.eqO (PySem.W.findIn K (.ref C) "__setattr__") (some (some (.builtin "object.__setattr__"))) && (decide (PySem.W.subIn K (.ref C) (.type "BaseException") = some true) &&
  (decide (PySem.W.typeIn K (.ref C) = some (.type "type")) && (PySem.W.keepIn K (.ref C) && (decide (PySem.W.mroIn K C (.ref C) = some true) && (He.eqO (PySem.W.ks_superIn K C C "__init__") (some (some (.builtin "ValueError.__init__"))) &&
  (decide (PySem.W.subIn K (.ref C) (.type "ValueError") = some true) && (He.eqO (PySem.W.nsIn K cStatics "thirdparty.any") (some none) && (He.eqO (PySem.W.findIn K (.ref C) "__init__") (some (some (.ref (He.ma K C "__init__")))) &&
  (decide (PySem.W.typeIn K (.ref (He.ma K C "__init__")) = some (.type "function")) && (xfB K C && He.eqO (PySem.W.findIn K (.ref C) fld) (some none)))))))))))))
theorem clsB_ok {K : PySem.W.Frag} {C : Addr} (h : clsB K C = true) : ∃ nm q N bs bm sn sub ab col dd k0 k1 k2 k3 k5, K.lookup C = some (excClassObj nm q C N bs bm true sn sub ab col dd k0 k1 k2 k3 k5 "ValueError.__new__") ∧ PySem.HandSPX.refsVE bm = true := by
  unfold clsB at h
  split at h
  · rename_i t dd cd sl e
    obtain ⟨h1, h⟩ := He.ba h
    split at h
    · rename_i c bm k0 k1 k2 k3 n k5 em es
      obtain ⟨h2, h⟩ := He.ba h
      obtain ⟨h3, h⟩ := He.ba h
      obtain ⟨h4, h⟩ := He.ba h
      obtain ⟨h5, h6⟩ := He.ba h
      have h1 := of_decide_eq_true h1
      have h2 := of_decide_eq_true h2
      have h3 := of_decide_eq_true h3
      obtain ⟨nm, bs, mro, ns, qn, hd, sn, sub, ab, col, del⟩ := cd
      dsimp only at em h4 h5
      subst h1 h2 h3 em h4
      have h5 : del = false := by simpa using h5
      subst h5
      have es : sl = #[k0, k1, k2, k3, some (.builtin "ValueError.__new__"), k5] := by
        obtain ⟨l⟩ := sl
        simp only at es
        rw [es]
      subst es
      exact ⟨nm, qn, ns, bs, bm, sn, sub, ab, col, dd, k0, k1, k2, k3, k5, e, h6⟩
    · cases h
  · cases h
theorem errD_of {K : PySem.W.Frag} {d : DefE} {C : Addr} {file : PySem.Str} (eC : C = He.ga K d.cls) (e : fnE K (d.at_ K) = d.val) (c : cloB K C (d.at_ K) d.qual file = true) : ∃ fd, SupE.ErrD K d.qual file d.params d.body d.scope C (d.at_ K) fd ∧ fd.defaults = .none := by
  unfold fnE at e
  unfold cloB at c
  rcases q : K.lookup (d.at_ K) with _ | ⟨oc, od, dt, osl⟩
  · rw [q] at c; cases c
  · rw [q] at c e
    cases dt
    case func fd =>
      obtain ⟨n1, n2, n3, n4, n5, n6, n7, n8, n9, n10, n11, n12, n13, n14, n15⟩ := fd
      have e : (some (n1, n2, n3, n4, n5, n6, n7.map (·.1), n15) : FnE) = (some (("__init__" : PySem.Str), d.qual, d.params, FuncBody.stmts d.body, d.scope, mainGlobals, ["__class__"], builtinsNs) : FnE) := e
      simp only [Option.some.injEq, Prod.mk.injEq] at e
      obtain ⟨rfl, rfl, rfl, rfl, rfl, rfl, e7, rfl⟩ := e
      obtain ⟨c1, c⟩ := He.ba c
      obtain ⟨c2, c⟩ := He.ba c
      obtain ⟨c3, c4⟩ := He.ba c
      obtain ⟨x, cc, o1, o2, o3, rfl, ecc⟩ := celB_ok c2
      obtain ⟨cda, f1, f2, vs, f3, tz, rfl, ecd, look⟩ := filB_ok c3
      have ex : x = ("__class__" : PySem.Str) := by simpa using e7
      subst ex
      exact ⟨_, ⟨oc, od, n8, n9, n10, n11, n12, n14, osl, cc, cda, f1, f2, vs, f3, tz, o1, o2, o3, rfl, q, c1, ecd, look, ecc⟩, noneB_ok c4⟩
    all_goals cases c
/-- an own error as raise and except ask of it -/
structure Er (P : Program) (w : World) (K : PySem.W.Frag) (mg : PySem.Str → Option Value) (base : Heap) (x : PySem.Str) (C : Addr) (fld : PySem.Str) (px : V → Prop) : Prop where
  T : OexC K C
  X : XfC K C
  no : PySem.W.findIn K (.ref C) fld = some none
  gl : mg x = some (.ref C)
  ex : ∃ fI fd ps, PySem.W.findIn K (.ref C) "__init__" = some (some (.ref fI)) ∧ PySem.W.typeIn K (.ref fI) = some (.type "function") ∧ FnOk P w K mg base CX0 2 fI fd ps (SupE.spErr C fld px) ∧ Binds K fd ps []
structure ErK (P : Program) (K : PySem.W.Frag) (mg : PySem.Str → Option Value) (C : Addr) (qual file fld : PySem.Str) : Prop where
  T : OexC K C
  X : XfC K C
  cc : SupE.ErrC P K mg file C
  clo : cloB K C (He.ma K C "__init__") qual file = true
  no : PySem.W.findIn K (.ref C) fld = some none
  iC : PySem.W.findIn K (.ref C) "__init__" = some (some (.ref (He.ma K C "__init__")))
  tI : PySem.W.typeIn K (.ref (He.ma K C "__init__")) = some (.type "function")
theorem erB_ok {P : Program} {K : PySem.W.Frag} {mg : PySem.Str → Option Value} {C : Addr} {qual file fld : PySem.Str} (h : erB K C qual file fld = true) (ns : mg "super" = none) (pf : ((P.main.file : PySem.Str) == file) = true) (pt : (P.main.scope.names.lookup ("super" : PySem.Str)).isSome = false) : ErK P K mg C qual file fld := by
  obtain ⟨h1, h⟩ := He.ba h
  obtain ⟨h2, h⟩ := He.ba h
  obtain ⟨h3, h⟩ := He.ba h
  obtain ⟨h4, h⟩ := He.ba h
  obtain ⟨h5, h⟩ := He.ba h
  obtain ⟨h6, h⟩ := He.ba h
  obtain ⟨h7, h⟩ := He.ba h
  obtain ⟨h8, h⟩ := He.ba h
  obtain ⟨h9, h⟩ := He.ba h
  obtain ⟨h10, h⟩ := He.ba h
  obtain ⟨h11, h⟩ := He.ba h
  obtain ⟨h12, h⟩ := He.ba h
  obtain ⟨h13, h14⟩ := He.ba h
  have T : OexC K C := ⟨clsB_ok h1, He.eqO_ok h3, of_decide_eq_true h4, of_decide_eq_true h5, h6⟩
  exact ⟨T, xfB_ok h13, ⟨T, of_decide_eq_true h7, He.eqO_ok h8, of_decide_eq_true h9, He.eqO_ok h10, ns, pf, pt⟩, h2, He.eqO_ok h14, He.eqO_ok h11, of_decide_eq_true h12⟩
theorem binds_of {K : PySem.W.Frag} {qual file : PySem.Str} {params : Arguments} {body : List Stmt} {scope : Scope} {C f : Addr} {fd : FuncData} {ps : List PySem.Str} (D : SupE.ErrD K qual file params body scope C f fd) (dn : fd.defaults = .none)
    (h : ∀ (kV doc pm : Value) (an : Option Addr) (cdv ct : Value) (cc : Addr) (us : List Value), us.length = ps.length → bindArgs (PySem.W.ksFn "__init__" qual params body scope .none kV doc pm an cdv ct cc) ⟨us, []⟩ = pure (ps.zip us)) : Binds K fd ps [] := by
  obtain ⟨oc, od, dV, kV, doc, pm, an, ct, osl, cc, cda, c1, d1, vs, l1, tf, c2, d2, l2, rfl, _⟩ := D.ex
  have dn : dV = .none := dn
  subst dn
  exact .all (h kV doc pm an (.ref cda) ct cc)
/-! ### raised -/
/-- behind BadX(v): the error's dict stands, new -/
theorem rs_end {C : Addr} {fld : PySem.Str} {px : V → Prop} {v : V} {H : Hp} {Q : XK} (hx : px v) (h : ∀ d, H d = none → Q (.ref C) (some d) (upd H d (.xd [(fld, v)]))) :
    [v].length ≤ 1000 ∧ ∀ a, H a = none → SupE.spErr C fld px (.ref a :: ([v] ++ [])) (upd H a (exo a C none)) (fun u H2 => u = .non ∧ ∃ (d : Addr) (fs : List (PySem.Str × V)), H2 a = some (exo a C (some d)) ∧ H2 d = some (exd d fs) ∧ H d = none ∧ Q (.ref C) (some d) (upd (del H2 a) d (.xd fs))) (fun _ _ _ => False) := by
  refine ⟨by show 1 ≤ 1000; decide, fun a ha => ⟨a, v, rfl, hx, upd_same, fun dx hd ne => ⟨rfl, dx, [(fld, v)], upd_same, by rw [upd_ne ne]; exact upd_same, by rw [upd_ne ne] at hd; exact hd, ?_⟩⟩⟩
  have hd' : H dx = none := by rw [upd_ne ne] at hd; exact hd
  have e : upd (del (upd (upd (upd H a (exo a C none)) dx (exd dx [(fld, v)])) a (exo a C (some dx))) a) dx (.xd [(fld, v)]) = upd H dx (.xd [(fld, v)]) := by
    funext b
    by_cases q : b = dx
    · rw [q, upd_same, upd_same]
    · rw [upd_ne q, upd_ne q]
      by_cases z : b = a
      · rw [z, del_same, ha]
      · rw [del_ne z, upd_ne z, upd_ne q, upd_ne z]
  rw [e]
  exact h dx hd'
section
variable {X : Cx} {C : Addr} {fld x : PySem.Str} {px : V → Prop} {j : Nat} {W : WX} {e : Expr} {ta : TA} {p pos pos2 : Pos}
theorem ps_rs (c : Er X.prog X.w X.K X.mg X.base x C fld px) (hc : X.calm = true) (hr : Room j X.A) (hk : 3 ≤ j) (tk : Takes X W) (hg : Gl X x) (ha : PA X [e] ta) (h1 : (x == ("__debug__" : PySem.Str)) = false := by decide)
    (h2 : starEach [e] X.env = (false, eval e X.env) :: starEach [] X.env := by rfl) (h3 : (backTo pos (starEach [] X.env)).any (·.1) = false := by rfl) :
    PS X (.Raise (some (.Call (.Name x p) [e] [] pos)) none pos2) (fun _ σ H => tMkO C (SupE.spErr C fld px) [] ta σ H fun cls d H' => W cls d σ H') :=
  let ⟨_, _, _, iC, tI, F, b⟩ := c.ex
  ps_raise hc tk (pmk_oex c.T iC tI F (hr.mono hk) b .nil pass0 hg c.gl ha h1 h2 h3)
end
/-! ### defs that may raise, called -/
structure Clx (P : Program) (w : World) (K : PySem.W.Frag) (mg : PySem.Str → Option Value) (base : Heap) (k : Nat) (x : PySem.Str) (sp : Sp) (dvs : List V) : Prop where
  ex : ∃ f fd ps ds, FnOk P w K mg base (L2.CX P w) k f fd ps sp ∧ mg x = some (.ref f) ∧ PySem.W.keepIn K (.ref f) = true ∧ Binds K fd ps ds ∧ Vals dvs ds
structure Mrx (P : Program) (w : World) (K : PySem.W.Frag) (mg : PySem.Str → Option Value) (base : Heap) (k : Nat) (x : PySem.Str) (C : Addr) (sp : Sp) (dvs : List V) : Prop where
  ex : ∃ f fd ps ds, Mk K C f ∧ FnOk P w K mg base (L2.CX P w) k f fd ps sp ∧ mg x = some (.ref C) ∧ Binds K fd ps ds ∧ Vals dvs ds
section
variable {X : Cx} {k j : Nat} {C : Addr} {x : PySem.Str} {sp : Sp} {dvs : List V} {p pos : Pos} {e : Expr} {es : List Expr} {t : TA} {W : WX} {E : XK}
theorem pe_clx (c : Clx X.prog X.w X.K X.mg X.base k x sp dvs) (hr : Room j X.A) (hk : k ≤ j) (tk : Takes X W) (hg : Gl X x) (ha : PA X (e :: es) t) (h1 : (x == ("__debug__" : PySem.Str)) = false := by decide)
    (h2 : starEach (e :: es) X.env = (false, eval e X.env) :: starEach es X.env := by rfl) (h3 : (backTo pos (starEach es X.env)).any (·.1) = false := by rfl) : PE X (.Call (.Name x p) (e :: es) [] pos) (fun σ H Q => t σ H fun vs H1 => sp (vs ++ dvs) H1 Q (WE W σ)) :=
  let ⟨_, _, _, _, F, hm, kp, b, d⟩ := c.ex
  pe_callSD F (hr.mono hk) hg hm kp b d (fun σ => passAt tk σ) ha h1 h2 h3
/-- in a def's body: what goes out of the callee goes out of the caller -/
theorem pe_mrx (c : Mrx X.prog X.w X.K X.mg X.base k x C sp dvs) (hr : Room j X.A) (hk : k + 1 ≤ j) (tk : Takes X fun cls d _ H => E cls d H) (hg : Gl X x) (ha : PA X (e :: es) t) (h1 : (x == ("__debug__" : PySem.Str)) = false := by decide)
    (h2 : starEach (e :: es) X.env = (false, eval e X.env) :: starEach es X.env := by rfl) (h3 : (backTo pos (starEach es X.env)).any (·.1) = false := by rfl) : PE X (.Call (.Name x p) (e :: es) [] pos) (tMake C sp dvs E t) :=
  let ⟨_, _, _, _, M, F, hm, b, d⟩ := c.ex
  pe_make M F (hr.mono hk) hg hm b d (passes_call tk fun _ _ _ _ h => h) ha h1 h2 h3
end
/-! ### the hook -/
abbrev ObsE : Type := Hd.Obs × List FnE
def obsE (fa : List He.Fa) (ex : PySem.W.Frag → Bool) (fn : List Hd.DefP) (er : List DefE) (K : PySem.W.Frag) : ObsE := (Hd.obsP fa ex fn K, er.map fun d => fnE K (d.at_ K))
def valE (fn : List Hd.DefP) (er : List DefE) : ObsE := (Hd.valP fn, er.map DefE.val)
def SaysE (fa : List He.Fa) (ex : PySem.W.Frag → Bool) (fn : List Hd.DefP) (er : List DefE) (K : PySem.W.Frag) : Prop := obsE fa ex fn er K = valE fn er
def obsGE (n : Nat) (fa : List He.Fa) (ex : PySem.W.Frag → Bool) (fn : List Hd.DefP) (er : List DefE) (g : Addr → Option Obj) : ObsE := obsE fa ex fn er (He.frG g (cStatics :: He.asD g n))
def hookE (n : Nat) (fa : List He.Fa) (ex : PySem.W.Frag → Bool) (fn : List Hd.DefP) (er : List DefE) : PySem.W.Hook where
  α := ObsE
  obs := fun s => obsGE n fa ex fn er s.heap.get?
  val := fun _ => valE fn er
  says := fun _ h => ∃ K : PySem.W.Frag, K.In h ∧ SaysE fa ex fn er K
  of := fun _ _ e => ⟨_, He.frG_in, e⟩
  keeps := fun _ _ _ ⟨K, i, c⟩ k => ⟨K, PySem.W.Frag.In.keeps i k, c⟩
theorem obsGE_eq {n : Nat} {fa : List He.Fa} {ex : PySem.W.Frag → Bool} {fn : List Hd.DefP} {er : List DefE} {g : Addr → Option Obj} {s : Shared} (h : ∀ a, g a = s.heap.get? a) : obsGE n fa ex fn er g = (hookE n fa ex fn er).obs s := by
  rw [show g = s.heap.get? from funext h]
  rfl
section
variable {fa : List He.Fa} {ex : PySem.W.Frag → Bool} {fn : List Hd.DefP} {er : List DefE} {K : PySem.W.Frag}
theorem SaysE.fst (c : SaysE fa ex fn er K) : Hd.Says fa ex fn K := congrArg (fun z : ObsE => z.1) c
theorem SaysE.err (c : SaysE fa ex fn er K) (i : Nat) {d : DefE} (h : er[i]? = some d := by rfl) : fnE K (d.at_ K) = d.val := by
  have e : er.map (fun d => fnE K (d.at_ K)) = er.map DefE.val := congrArg (fun z : ObsE => z.2) c
  have e2 : (er.map fun d => fnE K (d.at_ K))[i]? = (er.map DefE.val)[i]? := by rw [e]
  rw [List.getElem?_map, List.getElem?_map, h] at e2
  exact Option.some.inj e2
end
end Ers


/-! Sames: x == x: a value of a built-in kind, however deep, is equal to itself. -/
namespace Sms
open PySem PySem.Spec PyProof.Rows L2
theorem scal_self {x : V} (h : flatB x = true) : scal x x = true := by
  cases x <;> first | rfl | cases h
/-- no key stands twice -/
theorem hits_self {P : Program} {w : World} {A : Around} {s : Shared} {vb : List (Key × Value)} : ∀ {va : List (Key × Value)}, (∀ q ∈ va, valueAt vb q.1 = some q.2) → PySem.W.KeqHitsP P w A s vb va true
  | [], _ => .nil
  | q :: va, h => by
    have e := h q List.mem_cons_self
    have r : PySem.W.KeqHitsP P w A s vb ((q.1, q.2) :: va) (true && true) := .hit e (SeqAt.EqAt.same q.2).eqP (hits_self fun p hp => h p (List.mem_cons_of_mem _ hp))
    simpa using r
theorem self_at : ∀ {va : List (Key × Value)}, (va.map (·.1)).Nodup → ∀ q ∈ va, valueAt va q.1 = some q.2
  | [], _, q, hq => nomatch hq
  | p :: va, nd, q, hq => by
    simp only [List.map_cons, List.nodup_cons] at nd
    unfold valueAt
    rcases List.mem_cons.mp hq with e | m
    · rw [e]
      simp
    · have ne : ¬ p.1 = q.1 := fun z => nd.1 (by rw [z]; exact List.mem_map.mpr ⟨q, m, rfl⟩)
      have := self_at nd.2 q m
      unfold valueAt at this
      simp only [List.find?_cons]
      simp [ne, this]
theorem kv_keys {kvs : List (Key × V)} {va : List (Key × Value)} (r : KV kvs va) : va.map (·.1) = kvs.map (·.1) := by
  unfold KV at r
  induction r with
  | nil => rfl
  | cons h _ ih =>
    simp only [List.map_cons]
    rw [h.1, ih]
/-- what x == x asks -/
def Self (K : PySem.W.Frag) (H : Hp) (x : V) : Prop := flatB x = true ∨ ∃ a, x = .ref a ∧ ((∃ xs, SqL K H a xs) ∨ (∃ xs, SqT K H a xs) ∨ ∃ kvs, H a = some (.dK kvs) ∧ (kvs.map (·.1)).Nodup)
def rSelf (K : PySem.W.Frag) : R2 := fun x y H Q => x = y ∧ Self K H x ∧ Q (.bl true) H
theorem op_self {X : Cx} (hu : X.A.units < cLine) : OpR X (compareOp .Eq) (rSelf X.K) := by
  intro pins s σ H x y v u Q I rx ry h
  obtain ⟨rfl, h, q⟩ := h
  rcases h with f | ⟨a, rfl, ⟨xs, h⟩ | ⟨xs, h⟩ | ⟨kvs, h, nd⟩⟩
  · exact op_eq pins s σ H x x v u Q I rx ry ⟨scal_self f, by simpa using q⟩
  · cases (show v = Value.ref a from rx)
    cases (show u = Value.ref a from ry)
    obtain ⟨us, _, p, _⟩ := I.list h
    refine SeqAt.eq_listAt (e := fun _ => true) p.isList p.isList rfl hu (fun j h1 h2 => SeqAt.EqAt.same _) ⟨.bl true, H, I, ?_, q⟩
    show Value.bool _ = Value.bool true
    rw [List.all_eq_true.mpr fun _ _ => rfl]
  · cases (show v = Value.ref a from rx)
    cases (show u = Value.ref a from ry)
    obtain ⟨us, _, p, _⟩ := I.tuple h
    refine SeqAt.eq_tupleAt (e := fun _ => true) p p hu (fun j h1 h2 => SeqAt.EqAt.same _) ⟨.bl true, H, I, ?_, q⟩
    show Value.bool _ = Value.bool true
    rw [List.all_eq_true.mpr fun _ _ => rfl, beq_self_eq_true]
    rfl
  · cases (show v = Value.ref a from rx)
    cases (show u = Value.ref a from ry)
    obtain ⟨_, ya, va, ra, da⟩ := (show ObjOk X.prog X.w H s.heap a (.dK kvs) from I.hok a _ h)
    have ek := kv_keys ra
    refine PySem.W.rcP_dicts (knd := mixKind X.prog X.w) (r := true) ya ya da da hu (fun _ => hits_self (self_at (by rw [ek]; exact nd))) _ _ ⟨.bl true, H, I, ?_, q⟩
    show Value.bool _ = Value.bool true
    rw [beq_self_eq_true]
    rfl
end Sms


/-! DcSeq: a dict comprehension over a list or a tuple. -/
namespace Txs
open PySem PySem.Spec PyProof.Rows L2
def DcOf (J : It) (g : TG) (tt : TT) (tk tv : TE) (vs : List Nat) (σ : L2.St) (H : Hp) (Q : Addr → Hp → Prop) : Prop := ∀ D, H D = none → ∃ W : Nat → Nat → Hp → Prop, (∃ m, W 0 m (upd H D (.dK []))) ∧ ∀ i m H, W i m H →
  (J.stop i H ∧ Q D H) ∨ (J.go i H ∧ ∃ Nx : Hp → Prop, (∀ H', Nx H' → ∃ m', m' < m ∧ W (i + 1) m' H') ∧ ∀ x H', J.yld i H x H' → g x (wipe σ vs) H' fun σ2 H2 => wipe σ2 vs = wipe σ vs ∧ tt σ2 H2 fun b H3 =>
    if b = true then tk σ2 H3 fun y H4 => tv σ2 H4 fun z H5 => ∃ kvs k, y = kV k ∧ H5 D = some (.dK kvs) ∧ kvs.length < sizeLine ∧ Nx (upd H5 D (.dK (putK kvs k z))) else Nx H3)
section
variable {K : PySem.W.Frag} {a : Addr} {xs : List V} {g : TG} {tt : TT} {tk tv : TE} {vs : List Nat} {σ : L2.St} {H H0 : Hp} {Q : Addr → Hp → Prop}
theorem dc_seq (k : Sq K H0 a xs) (hb : ∀ o, H0 a = some o → H a = some o) (Pv : Addr → Nat → Hp → Prop) (h0 : ∀ D, H D = none → Pv D 0 (upd H D (.dK []))) (hl : ∀ D i H', H D = none → i ≤ xs.length → Pv D i H' → ∀ o, H0 a = some o → H' a = some o)
    (hs : ∀ D i x H', H D = none → xs[i]? = some x → Pv D i H' → g x (wipe σ vs) H' fun σ2 H2 => wipe σ2 vs = wipe σ vs ∧ tt σ2 H2 fun b H3 =>
      if b = true then tk σ2 H3 fun y H4 => tv σ2 H4 fun z H5 => ∃ kvs k, y = kV k ∧ H5 D = some (.dK kvs) ∧ kvs.length < sizeLine ∧ Pv D (i + 1) (upd H5 D (.dK (putK kvs k z))) else Pv D (i + 1) H3) (hd : ∀ D H', H D = none → Pv D xs.length H' → Q D H') :
    ((∃ xs, SqL K H a xs) ∧ DcOf (Itl K a) g tt tk tv vs σ H Q) ∨ ((∃ xs, SqT K H a xs) ∧ DcOf (Itt K a) g tt tk tv vs σ H Q) := by
  rcases k with k | k
  · refine .inl ⟨⟨_, sqL_keep k hb⟩, fun D hD => ⟨fun i m H' => m = xs.length - i ∧ i ≤ xs.length ∧ Pv D i H', ⟨xs.length, by simp, Nat.zero_le _, h0 D hD⟩, ?_⟩⟩
    rintro i m H' ⟨rfl, hi, p⟩
    have q := sqL_keep k (hl D i H' hD hi p)
    by_cases lt : i < xs.length
    · refine .inr ⟨⟨xs, xs[i], q, by simp [lt]⟩, Pv D (i + 1), fun H'' p' => ⟨_, by omega, rfl, lt, p'⟩, ?_⟩
      rintro x _ ⟨rfl, e⟩
      exact hs D i x _ hD (e xs q) p
    · obtain rfl : i = xs.length := by omega
      exact .inl ⟨⟨xs, q, Nat.le_refl _⟩, hd D H' hD p⟩
  · exact .inr ⟨⟨_, sqT_keep k hb⟩, fun D hD => dc_tup (Pv D) (h0 D hD) (fun i H' hi p => sqT_keep k (hl D i H' hD hi p)) (fun i x H' e p => hs D i x H' hD e p) fun H' p => hd D H' hD p⟩
end
end Txs


/-! ErrIs: isinstance of a caught own error that has its dict; methods that may raise, called in a try. -/
namespace ErI
open PySem PySem.Spec PyProof.Rows L2
/-- what an own error's class tells isinstance -/
structure IsC (K : PySem.W.Frag) (D : Addr) : Prop where
  x : XfC K D
  cl : (PySem.W.clsIn K D).isSome = true
  ac : PySem.W.findIn K (.ref D) "__class__" = some (some (.builtin "object.__class__"))
  gt : PySem.W.specialIn K (.builtin "object.__class__") "__get__" = some (some (.builtin "getset_descriptor.__get__"))
  tk : PySem.W.takesIn K (.builtin "object.__class__") = some true
  ob : PySem.W.mroIn K D (.type "object") = some true
def isB (K : PySem.W.Frag) (D : Addr) : Bool := xfB K D && ((PySem.W.clsIn K D).isSome && (He.eqO (PySem.W.findIn K (.ref D) "__class__") (some (some (.builtin "object.__class__"))) && (He.eqO (PySem.W.specialIn K (.builtin "object.__class__") "__get__") (some (some (.builtin "getset_descriptor.__get__"))) &&
  (decide (PySem.W.takesIn K (.builtin "object.__class__") = some true) && decide (PySem.W.mroIn K D (.type "object") = some true)))))
theorem isB_ok {K : PySem.W.Frag} {D : Addr} (h : isB K D = true) : IsC K D := by
  obtain ⟨h1, h⟩ := He.ba h
  obtain ⟨h2, h⟩ := He.ba h
  obtain ⟨h3, h⟩ := He.ba h
  obtain ⟨h4, h⟩ := He.ba h
  obtain ⟨h5, h6⟩ := He.ba h
  exact ⟨xfB_ok h1, h2, He.eqO_ok h3, He.eqO_ok h4, of_decide_eq_true h5, of_decide_eq_true h6⟩
/-- isinstance(e, C): e the error that the suite holds -/
def rIsX (K : PySem.W.Frag) (D a : Addr) (cls : Value) (d : Option Addr) : List V → Hp → VK → Prop := fun xs H Q => ∃ (c : V) (u : Value) (b : Bool) (dd : Addr) (fs : List (PySem.Str × V)), xs = [.ref a, c] ∧ ClsV c u ∧ cls = .ref D ∧ d = some dd ∧ H dd = some (.xd fs) ∧ PySem.W.kitOne K (.ref D) u = some b ∧ Q (.bl b) H
theorem call_isX {X : Cx} {a D : Addr} {oe : Obj} {cls : Value} {d : Option Addr} {pn : List (Addr × Obj)} (C : IsC X.K D) (hz : Zc cls d oe) (hf : ∃ vs, oe.data = .fields vs) : CallR (X.suite a ((a, oe) :: pn)) (.builtin "isinstance") (rIsX X.K D a cls d) := by
  intro pins s σ H xs us Q I r h
  obtain ⟨c, u, b, dd, fs, rfl, k, rfl, rfl, hd, e, q⟩ := h
  obtain ⟨u1, u2, rfl, r1, r2⟩ := vals2 r
  have e2 := k.eq r2
  subst e2
  cases (show u1 = Value.ref a from r1)
  obtain ⟨here, _⟩ := I.pin (a, oe) (List.mem_append_left _ List.mem_cons_self)
  obtain ⟨vs, hv⟩ := hf
  obtain ⟨mA, hns, _⟩ := (show ObjOk X.prog X.w H s.heap dd (.xd fs) from I.hok dd _ hd)
  obtain ⟨od, ho, _⟩ := lookIn_ns hns
  have J : PySem.W.InstAt s.heap a oe D (some od) := ⟨here, hz.1, by unfold PySem.W.notCls; rw [hv] <;> rfl, by rw [hz.2]; exact ho⟩
  exact PySem.W.kia_one (PySem.W.kitx_exc C.cl C.x.ga C.x.gg C.x.exC C.ac C.gt C.tk C.ob) I.kIn J e (fun z => nomatch z) fun tk => ⟨.bl b, H, I.kept (t' := tk) fun _ _ z => z, rfl, q⟩
/-! ### methods that may raise -/
structure Mex (P : Program) (w : World) (K : PySem.W.Frag) (mg : PySem.Str → Option Value) (base : Heap) (k : Nat) (C : Addr) (m : PySem.Str) (sp : Sp) : Prop where
  ex : ∃ f fd ps, Meth K C m f ∧ Cls K C ∧ FnOk P w K mg base (L2.CX P w) k f fd ps sp ∧ Binds K fd ps []
section
variable {X : Cx} {k j : Nat} {C : Addr} {sp : Sp} {m : PySem.Str} {o e : Expr} {es : List Expr} {ta : TE} {t : TA} {apos pos : Pos} {W : WX}
/-- o.m(e, ..), what it lets out wished for at the slots -/
def tMeX (C : Addr) (m : PySem.Str) (sp : Sp) (W : WX) (ta : TE) (t : TA) : TE := fun σ H Q => ta σ H fun x H1 => ∃ (a dx : Addr) (fs : List (PySem.Str × V)), x = .ref a ∧ H1 a = some (.ins C dx fs) ∧ fs.lookup m = none ∧ t σ H1 fun vs H2 => sp (.ref a :: vs) H2 Q (WE W σ)
theorem pe_mex {pl : Sem Bool} (c : Mex X.prog X.w X.K X.mg X.base k C m sp) (hr : Room j X.A) (hk : k ≤ j) (tk : Takes X W) (he : PE X o ta) (ha : PA X (e :: es) t)
    (hst : starEach (e :: es) X.env = (false, eval e X.env) :: starEach es X.env := by rfl) (hpl : (backTo pos (starEach es X.env)).any (·.1) = false := by rfl)
    (ht : eval (.Call (.Attribute o m apos) (e :: es) [] pos) X.env = (do
      let ov ← eval o X.env
      standAt apos.atName
      let (f, first) ← holding [ov] (getMethod ov m pl)
      callWith pos f first (backTo pos (starEach (e :: es) X.env)) (backToKw pos (keywordEach [] X.env))) := by rfl) :
    PE X (.Call (.Attribute o m apos) (e :: es) [] pos) (tMeX C m sp W ta t) := by
  obtain ⟨f, fd, ps, M, cl, F, b⟩ := c.ex
  refine ⟨fun pins s σ H Q I h => PySem.W.methodCall_KW (pl := pl) (thn (he.run pins s σ H _ I h) fun u s1 q1 => ?_) ht⟩
  obtain ⟨x, H1, I1, rx, a, dx, fs, rfl, ea, l, q⟩ := q1
  cases (show u = Value.ref a from rx)
  refine getmeth_ok I1 ea cl M l (PySem.W.callWith_K (first := [.ref a]) (h₀ := X.base) I.ok.mod.kin M.kp (thn (ha.run pos pins s1 σ H1 _ I1 q) fun us s2 q2 => ?_) hst hpl)
  obtain ⟨vs, H2, I2, r, q2⟩ := q2
  exact ⟨I2.kIn, run_fnS (E := WE W) (us := .ref a :: us) (vs := .ref a :: vs) F (hr.mono hk) b (passAt tk σ) I2 (.cons rfl r) q2⟩
end
/-! ### slices of a list or a tuple -/
theorem SlR.or {X : Cx} {r1 r2 : V → Option Int → Option Int → Hp → VK → Prop} (h1 : SlR X r1) (h2 : SlR X r2) : SlR X (fun x l u H Q => r1 x l u H Q ∨ r2 x l u H Q) :=
  fun pins s σ H x v vl vu lo hi sl Q I rx hs pl pu h => h.elim (fun h => h1 pins s σ H x v vl vu lo hi sl Q I rx hs pl pu h) fun h => h2 pins s σ H x v vl vu lo hi sl Q I rx hs pl pu h
end ErI


/-! MakeTry: a class made inside a try; promises joined; isinstance of a caught own error with a tuple of own classes; ints in an error's text. -/
namespace MkT
open PySem PySem.Spec PyProof.Rows L2
section
variable {P : Program} {w : World} {K : PySem.W.Frag} {mg : PySem.Str → Option Value} {base : Heap} {k : Nat} {f : Addr} {fd : FuncData} {ps : List PySem.Str} {sp sp' : Sp}
/-- what lets nothing out, read where something may be let out -/
theorem cx (F : FnOk P w K mg base CX0 k f fd ps sp) {CX : CXT} : FnOk P w K mg base CX k f fd ps sp := ⟨F.len, fun A outer s H args us vs Q E hr he hb hv hs => codeAny_mono (F.run A outer s H args us vs Q E hr he hb hv hs) fun r s' q => by
  cases r with
  | error e => exact False.elim q
  | ok fl => cases fl <;> exact q⟩
theorem or {CX : CXT} (F : FnOk P w K mg base CX k f fd ps sp) (G : FnOk P w K mg base CX k f fd ps sp') : FnOk P w K mg base CX k f fd ps (fun vs H Q E => sp vs H Q E ∨ sp' vs H Q E) :=
  ⟨fun vs H Q E h => h.elim (F.len vs H Q E) (G.len vs H Q E), fun A outer s H args us vs Q E hr he hb hv hs => hs.elim (F.run A outer s H args us vs Q E hr he hb hv) (G.run A outer s H args us vs Q E hr he hb hv)⟩
end
section
variable {X : Cx} {CX : CXT} {k j : Nat} {f C : Addr} {fd : FuncData} {ps : List PySem.Str} {sp : Sp} {dvs : List V} {ds : List Value} {E : L2.St → XK} {x : PySem.Str} {p pos : Pos} {e : Expr} {es : List Expr} {t : TA} {W : WX}
theorem made {pins : List (Addr × Obj)} {σ : L2.St} {H : Hp} {s : Shared} {Q : VK} {us : List Value} {vs : List V} (M : Mk X.K C f) (F : FnOk X.prog X.w X.K X.mg X.base CX k f fd ps sp) (hr : Room (k + 1) X.A) (hb : Binds X.K fd ps ds) (hd : Vals dvs ds) (hx : PassesAt CX X σ (E σ)) (I : Inv X pins σ H s) (r : Vals vs us)
    (h : ∀ x dx, H x = none → H dx = none → dx ≠ x → sp (.ref x :: (vs ++ dvs)) (upd (upd H dx (.own x)) x (.ins C dx [])) (fun v H2 => v = .non ∧ Q (.ref x) H2) (E σ)) : wpAny (model X.prog X.w) X.A (call (.ref C) us) (EP X pins σ Q) X.xe s := by
  obtain ⟨n, hn⟩ : ∃ n, n = s.heap.objs.size := ⟨_, rfl⟩
  have q := h (n + 1) n (I.hok.fresh (hn ▸ Nat.le_succ _)) (I.hok.fresh (hn ▸ Nat.le_refl _)) (Nat.ne_of_lt (Nat.lt_succ_self _))
  have I2 := Inv.made (C := C) I
  have r2 : Vals (V.ref (n + 1) :: (vs ++ dvs)) (Value.ref (n + 1) :: (us ++ ds)) := .cons rfl (r.append hd)
  have hl : (Value.ref (n + 1) :: us ++ ds).length = ps.length := r2.length.symm.trans (F.len _ _ _ _ q)
  subst hn
  refine wpAny_call (make_map (f := f) I.kIn M.makes M.init (beq_iff_eq.mp M.fn) (codeAny_mono (F.run _ X.stack _ _ ⟨_, []⟩ _ _ _ (E σ) (hr.make C us []) (I2.env0.make C us []) (hb _ (_ :: us) I2.kIn hl) r2 q) fun res s' z => ?_))
  match res, z with
  | .error er, z => exact hx pins _ _ er s' I2 z
  | .ok (.ret u), z =>
    obtain ⟨v, H', I3, rv, ev, q3⟩ := I2.after z
    subst ev
    exact ⟨rv, ⟨.ref (s.heap.objs.size + 1), H', I3, rfl, q3⟩⟩
  | .ok .next, z => exact z.elim
  | .ok .brk, z => exact z.elim
  | .ok .cont, z => exact z.elim
/-- C(e, ..), what it lets out wished for at the slots -/
def tMakeS (C : Addr) (sp : Sp) (dvs : List V) (W : WX) (t : TA) : TE := fun σ H Q => t σ H fun vs H1 => ∀ x dx, H1 x = none → H1 dx = none → dx ≠ x → sp (.ref x :: (vs ++ dvs)) (upd (upd H1 dx (.own x)) x (.ins C dx [])) (fun v H2 => v = .non ∧ Q (.ref x) H2) (WE W σ)
theorem pe_mrt (c : Ers.Mrx X.prog X.w X.K X.mg X.base k x C sp dvs) (hr : Room j X.A) (hk : k + 1 ≤ j) (tk : Takes X W) (hg : Gl X x) (ha : PA X (e :: es) t) (h1 : (x == ("__debug__" : PySem.Str)) = false := by decide)
    (h2 : starEach (e :: es) X.env = (false, eval e X.env) :: starEach es X.env := by rfl) (h3 : (backTo pos (starEach es X.env)).any (·.1) = false := by rfl) : PE X (.Call (.Name x p) (e :: es) [] pos) (tMakeS C sp dvs W t) := by
  obtain ⟨f, fd, ps, ds, M, F, hm, b, d⟩ := c.ex
  refine ⟨fun pins s σ H Q I h => wpAny_Call_Name_kw (ld_glob I hg hm ?_ h1)⟩
  exact PySem.W.callWith_K (h₀ := X.base) I.ok.mod.kin M.kp (thn (ha.run pos pins s σ H _ I h) fun us s1 ⟨vs, H1, I1, r, q⟩ => ⟨I1.kIn, made (E := WE W) M F (hr.mono hk) b d (passAt tk σ) I1 r q⟩) h2 h3
end
/-! ### isinstance(e, (C, ..)): e the error that the suite holds -/
def rIsXT (K : PySem.W.Frag) (D a : Addr) (cls : Value) (d : Option Addr) : List V → Hp → VK → Prop := fun xs H Q => ∃ (tp : Addr) (cs : List V) (us : List Value) (b : Bool) (dd : Addr) (fs : List (PySem.Str × V)), xs = [.ref a, .ref tp] ∧ H tp = some (.tup cs) ∧ Paired ClsV cs us ∧ cls = .ref D ∧ d = some dd ∧ H dd = some (.xd fs) ∧ PySem.W.kitAny K (.ref D) us = some b ∧ Q (.bl b) H
theorem call_isXT {X : Cx} {a D : Addr} {oe : Obj} {cls : Value} {d : Option Addr} {pn : List (Addr × Obj)} (C : ErI.IsC X.K D) (hz : Zc cls d oe) (hf : ∃ vs, oe.data = .fields vs) : CallR (X.suite a ((a, oe) :: pn)) (.builtin "isinstance") (rIsXT X.K D a cls d) := by
  intro pins s σ H xs us Q I r h
  obtain ⟨tp, cs, ws, b, dd, fs, rfl, hT, k, rfl, rfl, hd, e, q⟩ := h
  obtain ⟨u1, u2, rfl, r1, r2⟩ := vals2 r
  cases (show u2 = Value.ref tp from r2)
  cases (show u1 = Value.ref a from r1)
  obtain ⟨here, _⟩ := I.pin (a, oe) (List.mem_append_left _ List.mem_cons_self)
  obtain ⟨vs, hv⟩ := hf
  obtain ⟨mA, hns, _⟩ := (show ObjOk X.prog X.w H s.heap dd (.xd fs) from I.hok dd _ hd)
  obtain ⟨od, ho, _⟩ := lookIn_ns hns
  have J : PySem.W.InstAt s.heap a oe D (some od) := ⟨here, hz.1, by unfold PySem.W.notCls; rw [hv] <;> rfl, by rw [hz.2]; exact ho⟩
  obtain ⟨_, its, rv, o, h1, h2, n, h3⟩ := (show ObjOk X.prog X.w H s.heap tp (.tup cs) from I.hok tp _ hT)
  have e3 := ClsV.all k rv
  subst e3
  obtain ⟨oc, od', dt, sl⟩ := o
  simp only at h2 h3
  subst h2 h3
  exact PySem.W.kia_tup (PySem.W.kitx_exc C.cl C.x.ga C.x.gg C.x.exC C.ac C.gt C.tk C.ob) I.kIn J h1 e (fun z => nomatch z) fun tk => ⟨.bl b, H, I.kept (t' := tk) fun _ _ z => z, rfl, q⟩
/-! ### an int in an error's text -/
def small (v : V) : Prop := ∃ i : Int, v = .int i ∧ -1 ≤ i ∧ i ≤ 998
theorem len_small : ∀ n : Fin 1000, (toString ((n : Nat) - 1 : Int) : PySem.Str).length ≤ 40 := by decide +kernel
theorem pe_says {X : Cx} {e : Expr} {te : TE} {z : PySem.Str} {p1 p2 p3 : Pos} (hz : z.length ≤ 100) (h : PE X e te) : PE X (.JoinedStr [.Constant (.str z) 0 p1, .FormattedValue e (-1) none p2] p3) (fun σ H Q => tJs [tC (.str z), tFmt te] PySem.Str.empty σ H fun out H1 => Q (.str out) H1) := pe_joined (.cons pe_str (.cons (pe_fmt h) .nil))
theorem says_ok {te : TE} {z : PySem.Str} {σ : L2.St} {H : Hp} {x : V} {R : VK} (hz : z.length ≤ 100) (hx : small x) (ht : ∀ Q : VK, Q x H → te σ H Q) (h : ∀ v, R v H) : tJs [tC (.str z), tFmt te] PySem.Str.empty σ H fun out H1 => R (.str out) H1 := by
  obtain ⟨i, rfl, h1, h2⟩ := hx
  have l : (toString i : PySem.Str).length ≤ 40 := by
    have := len_small ⟨(i + 1).toNat, by omega⟩
    rw [show (((i + 1).toNat : Nat) : Int) - 1 = i by omega] at this
    exact this
  refine ⟨z, rfl, Nat.le_trans (Nat.le_of_eq (Str.length_append _ _)) ?_, ht _ (.inr ⟨i, rfl, ?_, _, rfl, Nat.le_trans (Nat.le_of_eq (Str.length_append _ _)) ?_, h _⟩)⟩
  · exact Nat.le_trans (show 0 + z.length ≤ 100 by omega) (by decide)
  · have n : i.natAbs < 2 ^ 10 := by omega
    by_cases q : i.natAbs = 0
    · rw [q]; decide
    · exact Nat.lt_trans ((Nat.log2_lt q).2 n) (by decide)
  · rw [Str.length_append]
    exact Nat.le_trans (show 0 + z.length + (toString i : PySem.Str).length ≤ 140 by omega) (by decide)
/-! ### len of a set of texts -/
def rLenX (P : Program) (w : World) : List V → Hp → VK → Prop := fun xs H Q => ∃ (a : Addr) (S : PySem.Str → Bool) (n : Nat), xs = [.ref a] ∧ H a = some (Txs.SetX P w a S n) ∧ ∀ ys : List PySem.Str, ys.Nodup → (∀ x, x ∈ ys ↔ S x = true) → Q (.int (ys.length : Int)) H
theorem call_lenX {X : Cx} : CallR X (.builtin "len") (rLenX X.prog X.w) := by
  intro pins s σ H xs us Q I r h
  obtain ⟨a, S, n, rfl, ha, q⟩ := h
  obtain ⟨ob, es, ep, t, e, ex, d, T, rfl⟩ := Txs.setX_get I ha
  rw [Vals.ref1 r]
  have few := T.few
  have q := q (es.toList.map Txs.txOf) T.once fun x => (T.just x).symm
  rw [List.length_map, Array.length_toList] at q
  have sb : scanBound ≤ 9223372036854775808 := by decide
  have fit : (es.size : Int) < 2 ^ 63 := by omega
  exact PySem.call_len_set e ex d T.fits fit ⟨.int (es.size : Int), H, I.tok _, ⟨_, rfl⟩, q⟩
/-! ### == of lists of other lengths, whatever stands in them -/
def rEqN (K : PySem.W.Frag) : R2 := fun x y H Q => ∃ (a b : Addr) (xs ys : List V), x = .ref a ∧ y = .ref b ∧ SqL K H a xs ∧ SqL K H b ys ∧ ((xs.length ≠ ys.length ∧ Q (.bl false) H) ∨ (xs = [] ∧ ys = [] ∧ Q (.bl true) H))
theorem op_eqN {X : Cx} (hu : X.A.units < cLine) : OpR X (compareOp .Eq) (rEqN X.K) := by
  intro pins s σ H x y v u Q I rx ry h
  obtain ⟨a, b, xs, ys, rfl, rfl, hx, hy, h⟩ := h
  cases (show v = Value.ref a from rx)
  cases (show u = Value.ref b from ry)
  obtain ⟨us, r1, p1, _⟩ := I.list hx
  obtain ⟨ws, r2, p2, _⟩ := I.list hy
  have e1 := r1.length
  have e2 := r2.length
  rcases h with ⟨ne, q⟩ | ⟨rfl, rfl, q⟩
  · refine SeqAt.eq_list_lengthsAt p1.isList p2.isList ?_ hu ⟨.bl false, H, I, rfl, q⟩
    rw [List.size_toArray, List.size_toArray, ← e1, ← e2]
    simpa using ne
  · cases us with
    | cons u us => cases e1
    | nil =>
      cases ws with
      | cons w ws => cases e2
      | nil => exact SeqAt.eq_listAt (e := fun _ => true) p1.isList p2.isList rfl hu (fun j h1 => absurd h1 (Nat.not_lt_zero _)) ⟨.bl true, H, I, rfl, q⟩
end MkT


/-! OptD: dicts whose keys are texts and None. -/
namespace OpD
open PySem PySem.Spec PyProof.Rows L2

/-- the leaf of a key -/
def lf : Option Str → Leaf
  | none => .none
  | some x => .text x
theorem lf_inj {a b : Option Str} (e : lf a = lf b) : a = b := by
  cases a with
  | none => cases b with
    | none => rfl
    | some y => exact nomatch e
  | some x => cases b with
    | none => exact nomatch e
    | some y => injection e with e; rw [e]
theorem lf_dec (a b : Option Str) : decide (a = b) = decide (lf a = lf b) := by
  by_cases q : a = b
  · rw [decide_eq_true q, decide_eq_true (congrArg lf q)]
  · rw [decide_eq_false q, decide_eq_false fun e => q (lf_inj e)]
/-- texts and None -/
def optKind (P : Program) (w : World) : KeyKind P w (Option Str) where
  is := fun k v => (leafKind P w).is (lf k) v
  hash := fun k => (leafKind P w).hash (lf k)
  inj := fun v a b ha hb => lf_inj ((leafKind P w).inj v _ _ ha hb)
  byValue := fun k v h => (leafKind P w).byValue _ v h
  pyHash := fun hv h => (leafKind P w).pyHash hv h
  eqBool := fun {A E s a b u v Q} hu hv h => (leafKind P w).eqBool hu hv (by rw [← lf_dec a b]; exact h)
  «strs» := fun k x t v h => (leafKind P w).strs (lf k) x t v h
/-- a key's value -/
def oV : Option Str → V
  | none => .non
  | some x => .str x
theorem oV_is {P : Program} {w : World} {k : Option Str} {u : Value} (r : RelV (oV k) u) : (optKind P w).is k u = true := by
  cases k with
  | none => cases (show u = Value.none from r); rfl
  | some x =>
    obtain ⟨t, rfl⟩ := (show ∃ t, u = Value.str x t from r)
    show Value.isStrOf x (.str x t) = true
    simp [Value.isStrOf]
theorem is_oV {P : Program} {w : World} {k : Option Str} {u : Value} (h : (optKind P w).is k u = true) : RelV (oV k) u := by
  cases k with
  | none =>
    have h' : Leaf.isOf .none u = true := h
    cases u <;> first | rfl | exact absurd h' Bool.false_ne_true
  | some x =>
    obtain ⟨t, rfl⟩ := Value.isStrOf_shape (show Value.isStrOf x u = true from h)
    exact ⟨t, rfl⟩

/-- the dict at a -/
def OkO (P : Program) (w : World) (a : Addr) (kvs : List (Option Str × V)) (h : Heap) : Prop :=
  kvs.length ≤ sizeLine ∧ (a == sysModules) = false ∧ ∃ vs, KV kvs vs ∧ h.DictOf (optKind P w) a vs
def DO (P : Program) (w : World) (a : Addr) (kvs : List (Option Str × V)) : HO := .ext (OkO P w a kvs)
theorem do_new {P : Program} {w : World} {H : Hp} {h : Heap} {a : Addr} {kvs : List (Option Str × V)} {vs : List (Option Str × Value)} (z : kvs.length ≤ sizeLine) (hd : (a == sysModules) = false) (rel : KV kvs vs)
    (dd : h.DictOf (optKind P w) a vs) : ObjOk P w H h a (DO P w a kvs) := by
  have ⟨o, _, _, ho, _⟩ := dd
  refine ⟨⟨z, hd, vs, rel, dd⟩, ⟨o, ho⟩, fun h1 h2 ⟨z, hd, vs, rel, ⟨o, es, ep, ho, r⟩⟩ k => ⟨z, hd, vs, rel, ⟨o, es, ep, k o ho, r⟩⟩⟩

section
variable {X : Cx} {pins : List (Addr × Obj)} {σ : L2.St} {H : Hp} {s : Shared} {a : Addr} {kvs : List (Option Str × V)} {k : Option Str} {v d : V} {u r : Value} {A : Around} {E : Value → Shared → Prop}
/-- read, also while it is walked -/
def RdO (P : Program) (w : World) (H : Hp) (a : Addr) (kvs : List (Option Str × V)) : Prop := H a = some (DO P w a kvs) ∨ ∃ o, H a = some (.frz o (DO P w a kvs))
theorem do_rd (I : Inv X pins σ H s) (e : RdO X.prog X.w H a kvs) : OkO X.prog X.w a kvs s.heap := by
  rcases e with e | ⟨o, e⟩
  · exact (show ObjOk X.prog X.w H s.heap a (DO X.prog X.w a kvs) from I.hok a _ e).1
  · exact (show ObjOk X.prog X.w H s.heap a (DO X.prog X.w a kvs) from (I.hok a _ e).2).1
theorem o_getItem {Q : Value → Shared → Prop} (I : Inv X pins σ H s) (e : RdO X.prog X.w H a kvs) (ry : RelV (oV k) u) (l : valV kvs k = some v) (h : ∀ w' s', Inv X pins σ H s' → RelV v w' → Q w' s') :
    wpAny (model X.prog X.w) A (getItem (.ref a) u) Q E s := by
  obtain ⟨z, hd, vs, rel, dd⟩ := do_rd I e
  obtain ⟨w', hw, rw'⟩ := RelO.some_of (v := v) (o := valueAt vs k) (by rw [← l]; exact rel.val k)
  exact wpAny_getItem_of (oV_is ry) dd.mapOf hw (h w' _ (I.tok _) rw')
theorem o_in {Q : Value → Shared → Prop} (I : Inv X pins σ H s) (e : RdO X.prog X.w H a kvs) (ry : RelV (oV k) u) (h : ∀ s', Inv X pins σ H s' → Q (.bool (valV kvs k).isSome) s') :
    wpAny (model X.prog X.w) A (compareOp .In u (.ref a)) Q E s := by
  obtain ⟨z, hd, vs, rel, dd⟩ := do_rd I e
  refine wpAny_in_of (oV_is ry) hd dd.mapOf ?_
  rw [← (rel.val k).isSome_eq]
  exact h _ (I.tok _)
theorem o_notIn {Q : Value → Shared → Prop} (I : Inv X pins σ H s) (e : RdO X.prog X.w H a kvs) (ry : RelV (oV k) u) (h : ∀ s', Inv X pins σ H s' → Q (.bool (!(valV kvs k).isSome)) s') :
    wpAny (model X.prog X.w) A (compareOp .NotIn u (.ref a)) Q E s := by
  obtain ⟨z, hd, vs, rel, dd⟩ := do_rd I e
  refine wpAny_notIn_of (oV_is ry) hd dd.mapOf ?_
  rw [← (rel.val k).isSome_eq]
  exact h _ (I.tok _)
theorem o_setItem {Q : Unit → Shared → Prop} (I : Inv X pins σ H s) (e : H a = some (DO X.prog X.w a kvs)) (ry : RelV (oV k) u) (rv : RelV v r) (l : kvs.length < sizeLine)
    (h : ∀ s', Inv X pins σ (upd H a (DO X.prog X.w a (putK kvs k v))) s' → Q () s') : wpAny (model X.prog X.w) A (setItem (.ref a) u r) Q E s := by
  obtain ⟨z, hd, vs, rel, dd⟩ := do_rd I (.inl e)
  have hz : vs.length ≤ sizeLine := by rw [← rel.length]; exact z
  have hl : (putK kvs k v).length ≤ sizeLine := by have := length_putK kvs k v; omega
  refine wpAny_setItem_pairs (hsz := hz) (oV_is ry) dd fun h' dd' hs => h _ ?_
  have he : ∃ q, h'.get? a = some q := let ⟨q, _, _, hq, _⟩ := dd'; ⟨q, hq⟩
  exact d_write I (by rw [e]; exact True.intro) hs he (do_new hl hd (rel.put k rv) dd')
theorem o_get1 {Q : Value → Shared → Prop} (I : Inv X pins σ H s) (e : RdO X.prog X.w H a kvs) (ry : RelV (oV k) u) (h : ∀ w' s', Inv X pins σ H s' → RelV ((valV kvs k).getD .non) w' → Q w' s') :
    wpAny (model X.prog X.w) A (call (.builtin "dict.get") [.ref a, u]) Q E s := by
  obtain ⟨z, hd, vs, rel, dd⟩ := do_rd I e
  exact call_meetsIn PySem.F.slot_dict_get dd.typeIs PySem.F.entry_dict_get (PySem.F.args_dict_get_2 _ _) (meets_dict_get (optKind X.prog X.w) a (oV_is ry) hd) ⟨_, dd.mapOf, h _ _ (I.tok _) ((rel.val k).getD rfl)⟩
theorem o_get2 {Q : Value → Shared → Prop} (I : Inv X pins σ H s) (e : RdO X.prog X.w H a kvs) (ry : RelV (oV k) u) (rd : RelV d r) (h : ∀ w' s', Inv X pins σ H s' → RelV ((valV kvs k).getD d) w' → Q w' s') :
    wpAny (model X.prog X.w) A (call (.builtin "dict.get") [.ref a, u, r]) Q E s := by
  obtain ⟨z, hd, vs, rel, dd⟩ := do_rd I e
  exact call_meetsIn PySem.F.slot_dict_get dd.typeIs PySem.F.entry_dict_get (PySem.F.args_dict_get_3 _ _ _) (meets_dict_get_default (optKind X.prog X.w) a (oV_is ry) hd r) ⟨_, dd.mapOf, h _ _ (I.tok _) ((rel.val k).getD rd)⟩
theorem o_setd {Q : Value → Shared → Prop} (I : Inv X pins σ H s) (e : H a = some (DO X.prog X.w a kvs)) (ry : RelV (oV k) u) (rd : RelV d r) (hl : kvs.length < sizeLine)
    (h1 : ∀ v, valV kvs k = some v → ∀ (w' : Value) (s' : Shared), Inv X pins σ H s' → RelV v w' → Q w' s')
    (h2 : valV kvs k = none → ∀ (w' : Value) (s' : Shared), Inv X pins σ (upd H a (DO X.prog X.w a (putK kvs k d))) s' → RelV d w' → Q w' s') :
    wpAny (model X.prog X.w) A (call (.builtin "dict.setdefault") [.ref a, u, r]) Q E s := by
  obtain ⟨z, hd, vs, rel, dd⟩ := do_rd I (.inl e)
  have hz : vs.length ≤ sizeLine := by rw [← rel.length]; exact z
  refine call_meetsIn PySem.F.slot_dict_setdefault dd.typeIs PySem.F.entry_dict_setdefault (PySem.F.args_dict_setdefault_3 _ _ _) (kt_meets_setdefault (optKind X.prog X.w) a (oV_is ry) hd r) ⟨vs, dd, hz, fun v hv => ?_, fun hn h' dd' hs => ?_⟩
  · have q := rel.val k
    rw [hv] at q
    cases q0 : valV kvs k with
    | none =>
      rw [q0] at q
      exact (show False from q).elim
    | some v0 =>
      rw [q0] at q
      exact h1 v0 q0 _ _ (I.tok _) q
  · have q := rel.val k
    rw [hn] at q
    cases q0 : valV kvs k with
    | some v0 =>
      rw [q0] at q
      exact (show False from q).elim
    | none =>
      have hl2 : (putK kvs k d).length ≤ sizeLine := by
        have := length_putK kvs k d
        omega
      have he : ∃ q, h'.get? a = some q := let ⟨q, _, _, hq, _⟩ := dd'; ⟨q, hq⟩
      exact h2 q0 _ _ (d_write (t' := s.toks + 1) I (by rw [e]; exact True.intro) hs he (do_new hl2 hd (rel.put k rd) dd')) rd
theorem o_len {Q : Value → Shared → Prop} (I : Inv X pins σ H s) (e : RdO X.prog X.w H a kvs) (h : ∀ t s', Inv X pins σ H s' → Q (.int kvs.length t) s') : wpAny (model X.prog X.w) A (call (.builtin "len") [.ref a]) Q E s := by
  obtain ⟨z, hd, vs, rel, dd⟩ := do_rd I e
  refine call_len_dict hd dd (by rw [← rel.length]; rw [sizeLine_eq] at z; omega) ?_
  rw [← rel.length]
  exact h _ _ (I.tok _)
theorem o_typeIs (I : Inv X pins σ H s) (e : RdO X.prog X.w H a kvs) : s.TypeIs (.ref a) "dict" := let ⟨_, _, _, _, dd⟩ := do_rd I e; dd.typeIs
theorem o_noDict (I : Inv X pins σ H s) (e : RdO X.prog X.w H a kvs) : ∀ b, Value.ref a = .ref b → ∃ ob, s.heap.get? b = some ob ∧ ob.dict = none := fun b q => by
  cases q
  obtain ⟨_, _, vs, _, ob, _, _, h1, h2, _⟩ := do_rd I e
  exact ⟨ob, h1, h2.2.1⟩
end

/-! ### readings and rules -/
/-- d[y] -/
def tOGet (P : Program) (w : World) (td ty : TE) : TE := fun σ H Q => td σ H fun x H1 => ty σ H1 fun y H2 => ∃ a kvs k v, x = .ref a ∧ RdO P w H2 a kvs ∧ y = oV k ∧ valV kvs k = some v ∧ Q v H2
def tOGet1 (P : Program) (w : World) (td ty : TE) : TE := fun σ H Q => td σ H fun x H1 => ∃ a kvs0, x = .ref a ∧ RdO P w H1 a kvs0 ∧ ty σ H1 fun y H2 => ∃ kvs k, RdO P w H2 a kvs ∧ y = oV k ∧ Q ((valV kvs k).getD .non) H2
def tOGet2 (P : Program) (w : World) (td ty tx : TE) : TE := fun σ H Q => td σ H fun x H1 => ∃ a kvs0, x = .ref a ∧ RdO P w H1 a kvs0 ∧ ty σ H1 fun y H2 => tx σ H2 fun z H3 => ∃ kvs k, RdO P w H3 a kvs ∧ y = oV k ∧ Q ((valV kvs k).getD z) H3
def tOSetd (P : Program) (w : World) (td ty tx : TE) : TE := fun σ H Q => td σ H fun x H1 => ∃ a kvs0, x = .ref a ∧ RdO P w H1 a kvs0 ∧ ty σ H1 fun y H2 => tx σ H2 fun z H3 => ∃ kvs k, H3 a = some (DO P w a kvs) ∧ y = oV k ∧ kvs.length < sizeLine ∧
  (∀ v, valV kvs k = some v → Q v H3) ∧ (valV kvs k = none → Q z (upd H3 a (DO P w a (putK kvs k z))))
def tOIn (P : Program) (w : World) (ty td : TE) : TE := fun σ H Q => ty σ H fun y H1 => td σ H1 fun x H2 => ∃ a kvs k, x = .ref a ∧ RdO P w H2 a kvs ∧ y = oV k ∧ Q (.bl (valV kvs k).isSome) H2
def tONotIn (P : Program) (w : World) (ty td : TE) : TE := fun σ H Q => ty σ H fun y H1 => td σ H1 fun x H2 => ∃ a kvs k, x = .ref a ∧ RdO P w H2 a kvs ∧ y = oV k ∧ Q (.bl (!(valV kvs k).isSome)) H2
/-- d[y] = v -/
def sOPut (P : Program) (w : World) (td ty tv : TE) : TS := fun D σ H => tv σ H fun v H1 => td σ H1 fun x H2 => ty σ H2 fun y H3 => ∃ a kvs k, x = .ref a ∧ H3 a = some (DO P w a kvs) ∧ y = oV k ∧ kvs.length < sizeLine ∧ D.nx σ (upd H3 a (DO P w a (putK kvs k v)))

section
variable {X : Cx} {o i e f value : Expr} {pos pos' apos cpos : Pos} {td ty tx tv : TE}
theorem pe_oget (ho : PE X o td) (hi : PE X i ty) (hs : NoSl i) : PE X (.Subscript o i pos) (tOGet X.prog X.w td ty) := by
  refine ⟨fun pins s σ H Q I h => ?_⟩
  refine subD_of PySem.F.slot_dict_getitem.lookup hs (thn (ho.run pins s σ H _ I h) fun u s1 ⟨x, H1, I1, rx, q1⟩ => thn (hi.run pins s1 σ H1 _ I1 q1) fun iv s2 ⟨y, H2, I2, ry, a, kvs, k, v, ex, g, ey, l, q2⟩ => ?_)
  subst ex ey
  obtain rfl : u = Value.ref a := rx
  exact ⟨o_typeIs I2 g, o_getItem I2 g ry l fun w' s3 I3 rw' => ⟨v, H2, I3, rw', q2⟩⟩
theorem pc_oin (hi : PE X i ty) (ho : PE X o td) : PC X .In i o (tOIn X.prog X.w ty td) := by
  refine ⟨fun pins s σ H Q I h => ?_⟩
  refine thn (hi.run pins s σ H _ I h) fun iv s1 ⟨y, H1, I1, ry, q1⟩ => thn (ho.run pins s1 σ H1 _ I1 q1) fun u s2 ⟨x, H2, I2, rx, a, kvs, k, ex, g, ey, q2⟩ => ?_
  subst ex ey
  obtain rfl : u = Value.ref a := rx
  exact o_in I2 g ry fun s3 I3 => ⟨.bl (valV kvs k).isSome, H2, I3, rfl, q2⟩
theorem pc_onotin (hi : PE X i ty) (ho : PE X o td) : PC X .NotIn i o (tONotIn X.prog X.w ty td) := by
  refine ⟨fun pins s σ H Q I h => ?_⟩
  refine thn (hi.run pins s σ H _ I h) fun iv s1 ⟨y, H1, I1, ry, q1⟩ => thn (ho.run pins s1 σ H1 _ I1 q1) fun u s2 ⟨x, H2, I2, rx, a, kvs, k, ex, g, ey, q2⟩ => ?_
  subst ex ey
  obtain rfl : u = Value.ref a := rx
  exact o_notIn I2 g ry fun s3 I3 => ⟨.bl (!(valV kvs k).isSome), H2, I3, rfl, q2⟩
theorem ps_oput (ho : PE X o td) (hi : PE X i ty) (hv : PE X value tv) (hs : swapsWith value (some (.Subscript o i pos')) pos.line X.env = pure false) :
    PS X (.Assign [.Subscript o i pos'] value pos) (sOPut X.prog X.w td ty tv) := by
  refine ⟨fun pins s σ H D I h => ?_⟩
  refine wpAny_Assign_Subscript (thn (hv.run pins s σ H _ I h) fun r s1 ⟨v, H1, I1, rv, q1⟩ => thn (ho.run pins s1 σ H1 _ I1 q1) fun u s2 ⟨x, H2, I2, rx, q2⟩ => thn (hi.run pins s2 σ H2 _ I2 q2) fun iv s3 ⟨y, H3, I3, ry, a, kvs, k, ex, g, ey, l, q3⟩ => ?_) hs
  subst ex ey
  obtain rfl : u = Value.ref a := rx
  exact o_setItem I3 g ry rv l fun s4 I4 => ⟨σ, _, I4, q3⟩
theorem pe_oget1 (ho : PE X o td) (he : PE X e ty) (m : M1 X o "get" apos e cpos) : PE X (.Call (.Attribute o "get" apos) [e] [] cpos) (tOGet1 X.prog X.w td ty) := by
  refine ⟨fun pins s σ H Q I h => ?_⟩
  refine wpAny_Call_method m.base m.few m.line PySem.F.plainAttrs_dict PySem.F.slot_dict_get PySem.F.type_dict_get (thn (ho.run pins s σ H _ I h) fun u s1 ⟨x, H1, I1, rx, a, kvs0, ex, d, q1⟩ => ?_)
  subst ex
  obtain rfl : u = Value.ref a := rx
  refine ⟨o_typeIs I1 d, o_noDict I1 d, ?_⟩
  rw [m.trees]
  refine Calls.callWith_builtin rfl (Calls.evalArgs_plain (Calls.spliced_cons (thn (he.run pins s1 σ H1 _ I1 q1) fun iv s2 ⟨y, H2, I2, ry, kvs, k, g, ey, q2⟩ => Calls.spliced_nil ?_)))
  subst ey
  exact o_get1 I2 g ry fun w' s3 I3 rw' => ⟨_, H2, I3, rw', q2⟩
theorem pe_oget2 (ho : PE X o td) (he : PE X e ty) (hf : PE X f tx) (m : M2 X o "get" apos e f cpos) : PE X (.Call (.Attribute o "get" apos) [e, f] [] cpos) (tOGet2 X.prog X.w td ty tx) := by
  refine ⟨fun pins s σ H Q I h => ?_⟩
  refine wpAny_Call_method m.base m.few m.line PySem.F.plainAttrs_dict PySem.F.slot_dict_get PySem.F.type_dict_get (thn (ho.run pins s σ H _ I h) fun u s1 ⟨x, H1, I1, rx, a, kvs0, ex, d, q1⟩ => ?_)
  subst ex
  obtain rfl : u = Value.ref a := rx
  refine ⟨o_typeIs I1 d, o_noDict I1 d, ?_⟩
  rw [m.trees]
  refine Calls.callWith_builtin rfl (Calls.evalArgs_plain (Calls.spliced_cons (thn (he.run pins s1 σ H1 _ I1 q1) fun iv s2 ⟨y, H2, I2, ry, q2⟩ =>
    Calls.spliced_cons (thn (hf.run pins s2 σ H2 _ I2 q2) fun fv s3 ⟨z, H3, I3, rz, kvs, k, g, ey, q3⟩ => Calls.spliced_nil ?_))))
  subst ey
  exact o_get2 I3 g ry rz fun w' s4 I4 rw' => ⟨_, H3, I4, rw', q3⟩
theorem pe_osetd (ho : PE X o td) (he : PE X e ty) (hf : PE X f tx) (m : M2 X o "setdefault" apos e f cpos) : PE X (.Call (.Attribute o "setdefault" apos) [e, f] [] cpos) (tOSetd X.prog X.w td ty tx) := by
  refine ⟨fun pins s σ H Q I h => ?_⟩
  refine wpAny_Call_method m.base m.few m.line PySem.F.plainAttrs_dict PySem.F.slot_dict_setdefault PySem.F.type_dict_setdefault (thn (ho.run pins s σ H _ I h) fun u s1 ⟨x, H1, I1, rx, a, kvs0, ex, d, q1⟩ => ?_)
  subst ex
  obtain rfl : u = Value.ref a := rx
  refine ⟨o_typeIs I1 d, o_noDict I1 d, ?_⟩
  rw [m.trees]
  refine Calls.callWith_builtin rfl (Calls.evalArgs_plain (Calls.spliced_cons (thn (he.run pins s1 σ H1 _ I1 q1) fun iv s2 ⟨y, H2, I2, ry, q2⟩ =>
    Calls.spliced_cons (thn (hf.run pins s2 σ H2 _ I2 q2) fun fv s3 ⟨z, H3, I3, rz, kvs, k, ea, ey, hl, q3, q4⟩ => Calls.spliced_nil ?_))))
  subst ey
  exact o_setd I3 ea ry rz hl (fun v hv w' s4 I4 rw' => ⟨v, _, I4, rw', q3 v hv⟩) fun hn w' s4 I4 rw' => ⟨z, _, I4, rw', q4 hn⟩
end

/-! ### the display -/
def mergeO (kvs more : List (Option Str × V)) : List (Option Str × V) := more.foldl (fun acc kv => putK acc kv.1 kv.2) kvs
theorem KVmerge : ∀ {more : List (Option Str × V)} {rs : List (Option Str × Value)} {kvs : List (Option Str × V)} {vs : List (Option Str × Value)}, KV more rs → KV kvs vs → KV (mergeO kvs more) (merged vs rs) := by
  intro more rs kvs vs r
  unfold KV at r
  induction r generalizing kvs vs with
  | nil => intro q; exact q
  | @cons p q ps qs h t ih =>
    intro r0
    have e : KV (putK kvs p.1 p.2) (stored vs q.1 q.2) := by
      have := r0.put p.1 h.2
      rw [← h.1]; exact this
    exact ih e
theorem length_mergeO : ∀ (more kvs : List (Option Str × V)), (mergeO kvs more).length ≤ kvs.length + more.length
  | [], kvs => by show kvs.length ≤ kvs.length + 0; omega
  | p :: r, kvs => by
    have h1 := length_mergeO r (putK kvs p.1 p.2)
    have h2 := length_putK kvs p.1 p.2
    show (mergeO (putK kvs p.1 p.2) r).length ≤ _
    rw [List.length_cons]; omega
theorem carries_o {P : Program} {w : World} : ∀ {kvs : List (Option Str × V)} {ws : List (Value × Value)}, VV (kvs.map fun kv => (oV kv.1, kv.2)) ws → ∃ rs, Carries (optKind P w) ws rs ∧ KV kvs rs
  | [], _, r => by rw [List.map_nil] at r; cases r; exact ⟨[], True.intro, .nil⟩
  | p :: kvs, _, r => by
    rw [List.map_cons] at r
    cases r with
    | @cons a b as bs h t =>
      obtain ⟨rs, c, q⟩ := carries_o (P := P) (w := w) t
      obtain ⟨b1, b2⟩ := b
      exact ⟨(p.1, b2) :: rs, ⟨oV_is h.1, rfl, c⟩, .cons ⟨rfl, h.2⟩ q⟩
/-- the empty dict is of every kind -/
theorem dictOf_nil {P : Program} {w : World} {K L : Type} [DecidableEq K] [DecidableEq L] {k1 : KeyKind P w K} (k2 : KeyKind P w L) {h : Heap} {a : Addr} (dd : h.DictOf k1 a []) : h.DictOf k2 a [] := by
  obtain ⟨o, es, ep, ho, he, hd, hk, hp, hn⟩ := dd
  have z : es.toList = [] := by
    have l := hp.length
    exact List.length_eq_zero_iff.mp l
  refine ⟨o, es, ep, ho, he, hd, fun e q => ?_, by rw [z]; exact .nil, List.nodup_nil⟩
  have q' : e ∈ es.toList := Array.mem_toList_iff.mpr q
  rw [z] at q'
  exact nomatch q'
/-- {k: v, ..}, keys texts and None; the new dict stands empty while the pairs are made -/
def tDispO (P : Program) (w : World) (trs : List (TE × TE)) : TE := fun σ H Q => ∀ p, H p = none → tPairs trs σ (upd H p (.dK [])) fun ps H2 => H2 p = some (.dK []) ∧ ∃ kvs : List (Option Str × V), ps = kvs.map (fun kv => (oV kv.1, kv.2)) ∧ kvs.length ≤ 15 ∧
  Q (.ref p) (upd H2 p (DO P w p (mergeO [] kvs)))
theorem pe_dispO {X : Cx} {pos : Pos} {keys : List (Option Expr)} {values : List Expr} {trs : List (TE × TE)} (h : PPs X pos keys values trs) (hall : keys.all (·.isSome) = true) (hl : keys.length = values.length) (h0 : keys ≠ [])
    (h15 : keys.length ≤ 15) : PE X (.Dict keys values pos) (tDispO X.prog X.w trs) := by
  refine ⟨fun pins s σ H Q I q => ?_⟩
  have hn := I.hok.fresh (Nat.le_refl s.heap.objs.size)
  have I1 := I.laid (a := s.heap.objs.size) (o := .dK []) (h' := s.heap.push { cls := .type "dict", data := .dict #[] }) (t' := s.toks) (fun _ _ q => Heap.get?_push_of_some _ q) (Nat.le_refl _) (dk_empty s.heap I.big)
  refine wpAny_Dict_walk (knd := optKind X.prog X.w) hall hl h0 h15 (thn (h.run pins _ σ _ _ I1 (q _ hn)) fun ws s2 ⟨ps, H2, I2, rel, e, kvs, ep, lk, q2⟩ => ?_)
  subst ep
  obtain ⟨rs, c, rk⟩ := carries_o (P := X.prog) (w := X.w) rel
  obtain ⟨z, hd, vs0, r0, dd⟩ := dk_of I2.hok e
  cases r0
  refine ⟨rs, c, dictOf_nil _ dd, fun h' dd' hs => ⟨.ref s.heap.objs.size, _, ?_, rfl, q2⟩⟩
  have hz : (mergeO [] kvs).length ≤ sizeLine := by
    have h1 := length_mergeO kvs []
    rw [List.length_nil] at h1
    rw [sizeLine_eq]; omega
  have he : ∃ q, h'.get? s.heap.objs.size = some q := let ⟨q, _, _, hq, _⟩ := dd'; ⟨q, hq⟩
  exact d_write I2 (by rw [e]; exact True.intro) hs he (do_new hz hd (KVmerge rk .nil) dd')
end OpD


/-! SuiteCall: a def that raises nothing, called while an exception is handled. -/
namespace SuC
open PySem PySem.Spec PyProof.Rows L2
structure RoomC (k : Nat) (A : Around) : Prop where
  dp : A.depth + 3 * k + 5 < recursionLimit
  un : A.units + 16 * k + 200 < cLine
theorem RoomC.mono {j k : Nat} {A : Around} (r : RoomC k A) (h : j ≤ k) : RoomC j A := ⟨by have := r.dp; omega, by have := r.un; omega⟩
theorem RoomC.deeper {k : Nat} {A : Around} (r : RoomC (k + 1) A) (env : Env) : RoomC k (A.deeper env) :=
  ⟨by have := r.dp; show A.depth + 1 + 3 * k + 5 < _; omega, by have := r.un; show A.units + 3 + 16 * k + 200 < _; omega⟩
theorem RoomC.depth {k : Nat} {A : Around} (r : RoomC k A) : A.depth < recursionLimit := by have := r.dp; omega
theorem roomC {k : Nat} {A : Around} (r : Room k A) {hd : Option Value} : RoomC k (A.mark hd) := ⟨r.dp, r.un⟩
/-- what a def promises whatever is handled -/
structure FnC (P : Program) (w : World) (K : PySem.W.Frag) (mg : PySem.Str → Option Value) (base : Heap) (k : Nat) (f : Addr) (fd : FuncData) (ps : List PySem.Str) (sp : Sp) : Prop where
  len : ∀ vs H Q E, sp vs H Q E → vs.length = ps.length
  run : ∀ (A : Around) (outer : List Env) (s : Shared) (H : Hp) (args : Args) (us : List Value) (vs : List V) (Q : VK) (E : XK), RoomC k A → Env0 P w K mg base A outer s H → BindsTo s fd args (ps.zip us) → Vals vs us → sp vs H Q E →
    codeAny (model P w) A (.call (.ref f) args) (CR CX0 outer P w H s Q E) s
def cxC (P : Program) (w : World) (K : PySem.W.Frag) (mg : PySem.Str → Option Value) (base : Heap) (N : List PySem.Str) (qual : PySem.Str) (scope : Scope) (f : Addr) (cd : Value) (A : Around) (outer : List Env) (s : Shared) (H : Hp) (E : XK) : Cx :=
  { cxOf CX0 P w K mg base N qual scope f cd A outer s H E with calm := false }
theorem inv_startC {P : Program} {w : World} {K : PySem.W.Frag} {mg : PySem.Str → Option Value} {base : Heap} {N ps : List PySem.Str} {qual : PySem.Str} {scope : Scope} {f : Addr} {cd : Value} {A : Around} {outer : List Env} {s s1 : Shared} {H : Hp} {E : XK} {us : List Value} {vs : List V}
    (S : FnScope N ps scope) (e0 : Env0 P w K mg base A outer s H) (hl : vs.length = ps.length) (r : Vals vs us)
    (x : InCallC s s.heap.objs.size (bindL (envOfC qual scope s.heap.objs.size f cd).kindOf (ps.zip us) fun _ => none) (cellsFrom (s.heap.objs.size + 1) scope.names []) (bindC (envOfC qual scope s.heap.objs.size f cd).kindOf (ps.zip us) fun _ => none) s1) :
    Inv (cxC P w K mg base N qual scope f cd A outer s H E) [] (L2.start N vs) H s1 := by
  have hpl : ps.length ≤ N.length := by have := congrArg List.length S.pre; rw [List.length_take] at this; omega
  obtain ⟨h1, tk, rfl, hk⟩ := x.done
  have noA : ∀ b : Addr, b ∉ (cxC P w K mg base N qual scope f cd A outer s H E).ex := fun b z => absurd (show b ∈ ([] : List Addr) from z) (by simp)
  refine ⟨⟨e0.mod, S.kind, rfl, rfl, Nat.le_refl _, fun y z c h1 h2 => ?_, fun y hy => ?_, fun y c _ h => ?_, (fun z => Bool.noConfusion (show false = true from z)), Around.frames_deeper e0.frames, .inr ⟨rfl, rfl⟩, fun b z => absurd z (noA b), e0.bs, e0.bsz, fun b _ _ => noA b, fun b z => absurd z (noA b), e0.funs, e0.frf⟩,
    rfl, e0.bare, Un.kept hk, ⟨_, x.toInCall.ns, fun i y v h1 h2 h3 => ?_⟩, fun y c h => ⟨_, x.cell y c h⟩, e0.hok.fresh (Nat.le_refl _), fun y c h => ?_, fun q hq => ?_, e0.hok.kept hk, ?_⟩
  · exact name_of_addr x.apart (PySem.mem_of_lookup h1) (PySem.mem_of_lookup h2)
  · have hy : scope.names.lookup y = some .cell ∨ scope.names.lookup y = some .free := hy
    rcases hy with hy | hy
    · exact cell_has hy
    · exact absurd rfl (S.nofree _ (PySem.mem_of_lookup hy))
  · exact Nat.le_of_lt (x.above y c (PySem.mem_of_lookup h))
  · have hi : i < vs.length := by
      unfold L2.start at h2
      by_cases hi : i < vs.length
      · exact hi
      · rw [List.getElem?_append_right (by simpa using hi)] at h2
        rw [List.getElem?_replicate] at h2
        split at h2 <;> cases h2
    have ha : vs[i]? = some v := by
      unfold L2.start at h2
      rw [List.getElem?_append_left (by simpa using hi), List.getElem?_map] at h2
      cases e : vs[i]? with
      | none => rw [e] at h2; cases h2
      | some a => rw [e] at h2; cases h2; rfl
    obtain ⟨u, hu, rv⟩ := r.get ha
    have hp : ps[i]? = some y := by
      rw [← S.pre, List.getElem?_take_of_lt (by omega)]; exact h1
    have ndP : ps.Nodup := by rw [← S.pre]; exact S.nd.sublist (List.take_sublist _ _)
    refine ⟨u, rv, ?_⟩
    rcases S.par y (List.mem_of_getElem? hp) with k | k
    · exact .inl ⟨k, bindL_get ndP hp hu k⟩
    · obtain ⟨c, e⟩ := cell_has (n := s.heap.objs.size + 1) k
      refine .inr ⟨.inl k, c, e, ?_⟩
      have q := x.cell y c e
      rw [bindC_get ndP hp hu (by show scope.names.lookup y ≠ _; rw [k]; decide)] at q
      exact q
  · exact e0.hok.fresh (Nat.le_of_lt (x.above y c (PySem.mem_of_lookup h)))
  · exact absurd (show q ∈ ([] : List (Addr × Obj)) ++ [] from hq) (by simp)
  · unfold L2.start
    show _ = N.length
    rw [List.length_append, List.length_map, List.length_replicate]
    omega
theorem FunD.okC {P : Program} {w : World} {K : PySem.W.Frag} {mg : PySem.Str → Option Value} {base : Heap} {x qual : PySem.Str} {params : Arguments} {body : List Stmt} {scope : Scope} {dvs : List V} {kws : List (PySem.Str × V)} {f : Addr} {fd : FuncData} {N ps : List PySem.Str} {k : Nat} {sp : Sp}
    (F : FunD K x qual params body scope dvs kws f fd) (S : FnScope N ps scope) (len : ∀ vs H Q E, sp vs H Q E → vs.length = ps.length)
    (hbody : ∀ (cdv : Value) (A : Around) (outer : List Env) (s : Shared) (H : Hp) (vs : List V) (Q : VK) (E : XK), RoomC k (A.deeper (envOfC qual scope s.heap.objs.size f cdv)) → sp vs H Q E →
      ∃ t, PSs (cxC P w K mg base N qual scope f cdv A outer s H E) body t ∧ t { nx := fun _ H' => Q .non H', rt := Q } (L2.start N vs) H) : FnC P w K mg base (k + 1) f fd ps sp := by
  obtain ⟨oc, od, dV, kV, doc, pm, an, cdv, ct, osl, rfl, lk, hcd, _, _⟩ := F.ex
  refine ⟨len, fun A outer s H args us vs Q E hr e0 hb r hsp => ?_⟩
  have hl := len _ _ _ _ hsp
  have KX : K.In s.heap := e0.mod.kin.keeps fun b o e => (e0.bs b o e).1
  have lim : s.heap.NoLimit := e0.mod.nolimit.keeps fun b o e => (e0.bs b o e).1
  have hkind : ∀ y ∈ ps.zip us, scope.names.lookup y.1 = some .local ∨ (scope.names.lookup y.1 = some .cell ∧ ((cellsFrom (s.heap.objs.size + 1) scope.names []).lookup y.1).isSome = true) := fun ⟨n, v⟩ hy => by
    rcases S.par n (List.of_mem_zip hy).1 with q | q
    · exact .inl q
    · exact .inr ⟨q, PySem.W.cellsFrom_some _ _ _ (.inl q)⟩
  refine codeAny_call_function hr.depth (KX _ _ lk) rfl S.co S.gen rfl (PySem.W.codeRec_of KX hcd) (hb _ _ _ _ ?_)
  refine wpAny_newFunctionEnv_cells S.kind hkind fun env he s1 x => ?_
  subst he
  refine ⟨lim.keeps x.toInCall.keep, codeAny_func ?_⟩
  obtain ⟨t, ht, hq⟩ := hbody cdv A outer s H vs Q E (hr.deeper _) hsp
  have I : Inv (cxC P w K mg base N qual scope f cdv A outer s H E) [] (L2.start N vs) H s1 := inv_startC S e0 hl r x
  refine wpAny_mono (ht.run [] s1 (L2.start N vs) H _ I hq) (fun fl s' hs => ?_) fun e s' hs => hs
  have fin : ∀ {σ' : L2.St} {H' : Hp} {v : V} {u : Value}, Inv (cxC P w K mg base N qual scope f cdv A outer s H E) [] σ' H' s' → RelV v u → Q v H' → CE outer P w H s Q u s' :=
    fun {σ' H' v u} J rv q => ⟨v, H', J.os, J.bare, J.base, J.hok, rv, q⟩
  cases fl with
  | ret u =>
    obtain ⟨v, σ', H', J, rv, q⟩ := hs
    exact fin J rv q
  | next =>
    obtain ⟨σ', H', J, q⟩ := hs
    exact fin (v := V.non) (u := Value.none) J rfl q
  | brk =>
    obtain ⟨_, _, _, q⟩ := hs
    exact False.elim q
  | cont =>
    obtain ⟨_, _, _, q⟩ := hs
    exact False.elim q
/-- such a def by its name -/
structure Clc (P : Program) (w : World) (K : PySem.W.Frag) (mg : PySem.Str → Option Value) (base : Heap) (k : Nat) (x : PySem.Str) (sp : Sp) : Prop where
  ex : ∃ f fd ps, FnC P w K mg base k f fd ps sp ∧ mg x = some (.ref f) ∧ PySem.W.keepIn K (.ref f) = true ∧ Binds K fd ps []
section
variable {X : Cx} {k j : Nat} {x : PySem.Str} {sp : Sp} {q pos : Pos} {e : Expr} {es : List Expr} {t : TA}
theorem pe_clc (c : Clc X.prog X.w X.K X.mg X.base k x sp) (hr : RoomC j X.A) (hk : k ≤ j) (hg : Gl X x) (ha : PA X (e :: es) t) (hdb : (x == ("__debug__" : PySem.Str)) = false := by decide)
    (he : starEach (e :: es) X.env = (false, eval e X.env) :: starEach es X.env := by rfl) (hpl : (backTo pos (starEach es X.env)).any (·.1) = false := by rfl) :
    PE X (.Call (.Name x q) (e :: es) [] pos) (fun σ H Q => t σ H fun vs H1 => sp vs H1 Q E0) := by
  obtain ⟨f, fd, ps, F, hm, kp, hb⟩ := c.ex
  refine ⟨fun pins s σ H Q I h => ?_⟩
  refine wpAny_Call_Name_kw (ld_glob I hg hm ?_ hdb)
  refine PySem.W.callWith_K (h₀ := X.base) I.ok.mod.kin kp (thn (ha.run pos pins s σ H _ I h) fun us s1 ⟨vs, H1, I1, r, q⟩ => ⟨I1.kIn, ?_⟩) he hpl
  have hl : us.length = ps.length := by rw [← r.length]; exact F.len _ _ _ _ q
  have b := hb s1 us I1.kIn (by rw [List.append_nil]; exact hl)
  rw [List.append_nil] at b
  refine wpAny_call (codeAny_mono (F.run X.A X.stack s1 H1 ⟨us, []⟩ us vs Q E0 (hr.mono hk) I1.env0 b r q) fun r s' hq => ?_)
  cases r with
  | error e => exact hq.elim
  | ok fl =>
    cases fl with
    | ret u => exact I1.after hq
    | next => exact False.elim hq
    | brk => exact False.elim hq
    | cont => exact False.elim hq
end
end SuC


/-! HeadT: what a head's hook looks at, off a tree made of the heap once. -/
namespace Ers
open PySem PySem.Spec PyProof.Rows L2
def obsT (n : Nat) (fa : List He.Fa) (ex : PySem.W.Frag → Bool) (fn : List Hd.DefP) (er : List DefE) (s : Shared) : Option ObsE := match HandSHeadRun.treeOf s with
  | some x => HandSHeadRun.frS x fun x => some (obsGE n fa ex fn er (HandSHeadRun.getT x))
  | none => none
def hookT (n : Nat) (fa : List He.Fa) (ex : PySem.W.Frag → Bool) (fn : List Hd.DefP) (er : List DefE) : PySem.W.Hook where
  α := Option ObsE
  obs := obsT n fa ex fn er
  val := fun _ => some (valE fn er)
  says := fun _ h => ∃ K : PySem.W.Frag, K.In h ∧ SaysE fa ex fn er K
  of := fun w s e => by
    unfold obsT at e
    cases t : HandSHeadRun.treeOf s with
    | none => rw [t] at e; cases e
    | some x =>
      rw [t] at e
      have e1 : HandSHeadRun.frS x (fun x => some (obsGE n fa ex fn er (HandSHeadRun.getT x))) = some (valE fn er) := e
      rw [HandSHeadRun.frS_eq] at e1
      have e2 := Option.some.inj e1
      rw [obsGE_eq (HandSHeadRun.getT_eq x), (HandSHeadRun.treeOf_eq t).1] at e2
      exact (hookE n fa ex fn er).of w s e2
  keeps := (hookE n fa ex fn er).keeps
end Ers


namespace Lw
open PySem PySem.Spec PyProof.Rows L2 Txs
open C8 (pe_gc)
def top (i : Nat) : Stmt := PySem.Challenge.pw_leastguards_k13_whole_wanted_ends.main.body.getD i (.Pass ⟨0, 0, 0, 0⟩)
abbrev s_law_stream : Stmt := top 47
abbrev s_law_draw : Stmt := top 48
abbrev s_law_is_integer : Stmt := top 49
abbrev s_law_integers : Stmt := top 50
abbrev s_law_names : Stmt := top 51
abbrev s_law_states : Stmt := top 52
abbrev s_law_steps : Stmt := top 53
abbrev s_law_marks : Stmt := top 54
abbrev s_law_view : Stmt := top 55
abbrev s_law_closed : Stmt := top 56
abbrev s_law_onward : Stmt := top 57
abbrev s_law_is_name : Stmt := top 58
abbrev s_law_wanted_run : Stmt := top 59
abbrev s_law_spoilt : Stmt := top 60
abbrev s_law_due : Stmt := top 61
abbrev s_law_ask : Stmt := top 62
abbrev s_law : Stmt := top 63
abbrev s_is_integer : Stmt := top 15
abbrev s_is_name : Stmt := top 16
abbrev s_is_state : Stmt := top 17
abbrev s_is_row : Stmt := top 19
abbrev s_is_step : Stmt := top 24
abbrev s_check_steps : Stmt := top 25
abbrev s_words_of : Stmt := top 26
abbrev s_check_marks : Stmt := top 27
abbrev s_without : Stmt := top 28
abbrev s_targets_by_state : Stmt := top 29
abbrev s_states_from : Stmt := top 30
abbrev s_is_index : Stmt := top 18
abbrev s_steps_of : Stmt := top 37
abbrev s_end_of : Stmt := top 38
abbrev s_sights_of : Stmt := top 39
abbrev s_wanted_by_sight : Stmt := top 33
abbrev s_first_ends : Stmt := top 34
abbrev s_ends_after : Stmt := top 35
abbrev s_wanted_ends : Stmt := top 40
abbrev s_check_sights : Stmt := top 42
abbrev s_check_words : Stmt := top 43
abbrev s_Plant___init__ : Stmt := inClass (top 31) 0
abbrev s_Plant_start : Stmt := inClass (top 31) 2
abbrev s_Plant_steps : Stmt := inClass (top 31) 3
abbrev s_Plant_wanted : Stmt := inClass (top 31) 5
abbrev s_View___init__ : Stmt := inClass (top 45) 0
abbrev s_View___eq__ : Stmt := inClass (top 45) 1
abbrev s_View_sights : Stmt := inClass (top 45) 13
abbrev N_law_stream : List PySem.Str := ["_law_script", "_law_at", "_law_cell"]
theorem sc_law_stream : FnScope N_law_stream ["_law_script", "_law_at"] (defScope s_law_stream) := ⟨rfl, rfl, rfl, by decide +kernel, rfl, by decide +kernel, by decide +kernel⟩
abbrev N_law_draw : List PySem.Str := ["_law_stream_here", "_law_limit", "_law_number", "_law_rest"]
theorem sc_law_draw : FnScope N_law_draw ["_law_stream_here", "_law_limit"] (defScope s_law_draw) := ⟨rfl, rfl, rfl, by decide +kernel, rfl, by decide +kernel, by decide +kernel⟩
abbrev N_law_is_integer : List PySem.Str := ["_law_value"]
theorem sc_law_is_integer : FnScope N_law_is_integer ["_law_value"] (defScope s_law_is_integer) := ⟨rfl, rfl, rfl, by decide +kernel, rfl, by decide +kernel, by decide +kernel⟩
abbrev N_law_integers : List PySem.Str := ["_law_told", "_law_due_here", "_law_item"]
theorem sc_law_integers : FnScope N_law_integers ["_law_told", "_law_due_here"] (defScope s_law_integers) := ⟨rfl, rfl, rfl, by decide +kernel, rfl, by decide +kernel, by decide +kernel⟩
abbrev N_law_names : List PySem.Str := ["_law_stream_here", "_law_count", "_law_names_here", "_law_k", "_law_name", "_law_turn"]
theorem sc_law_names : FnScope N_law_names ["_law_stream_here", "_law_count"] (defScope s_law_names) := ⟨rfl, rfl, rfl, by decide +kernel, rfl, by decide +kernel, by decide +kernel⟩
abbrev N_law_states : List PySem.Str := ["_law_stream_here", "_law_count", "_law_base", "_law_k"]
theorem sc_law_states : FnScope N_law_states ["_law_stream_here", "_law_count"] (defScope s_law_states) := ⟨rfl, rfl, rfl, by decide +kernel, rfl, by decide +kernel, by decide +kernel⟩
abbrev N_law_steps : List PySem.Str := ["_law_stream_here", "_law_states_here", "_law_words", "_law_many", "_law_steps_here", "_law_turn", "_law_first", "_law_word", "_law_last", "_law_leaving", "_law_step"]
theorem sc_law_steps : FnScope N_law_steps ["_law_stream_here", "_law_states_here", "_law_words", "_law_many"] (defScope s_law_steps) := ⟨rfl, rfl, rfl, by decide +kernel, rfl, by decide +kernel, by decide +kernel⟩
abbrev N_law_marks : List PySem.Str := ["_law_stream_here", "_law_steps_here", "_law_wanted", "_law_barred", "_law_number", "_law_kind"]
theorem sc_law_marks : FnScope N_law_marks ["_law_stream_here", "_law_steps_here"] (defScope s_law_marks) := ⟨rfl, rfl, rfl, by decide +kernel, rfl, by decide +kernel, by decide +kernel⟩
abbrev N_law_view : List PySem.Str := ["_law_stream_here", "_law_words", "_law_sights", "_law_table", "_law_holds", "_law_word", "_law_kind"]
theorem sc_law_view : FnScope N_law_view ["_law_stream_here", "_law_words", "_law_sights"] (defScope s_law_view) := ⟨rfl, rfl, rfl, by decide +kernel, rfl, by decide +kernel, by decide +kernel⟩
abbrev N_law_closed : List PySem.Str := ["_law_steps_here", "_law_wanted", "_law_table", "_law_states_here", "_law_found", "_law_at", "_law_number", "_law_step"]
theorem sc_law_closed : FnScope N_law_closed ["_law_steps_here", "_law_wanted", "_law_table", "_law_states_here"] (defScope s_law_closed) := ⟨rfl, rfl, rfl, by decide +kernel, rfl, by decide +kernel, by decide +kernel⟩
abbrev N_law_onward : List PySem.Str := ["_law_steps_here", "_law_wanted", "_law_table", "_law_states_here", "_law_sight", "_law_ends", "_law_number", "_law_step"]
theorem sc_law_onward : FnScope N_law_onward ["_law_steps_here", "_law_wanted", "_law_table", "_law_states_here", "_law_sight"] (defScope s_law_onward) := ⟨rfl, rfl, rfl, by decide +kernel, rfl, by decide +kernel, by decide +kernel⟩
abbrev N_law_is_name : List PySem.Str := ["_law_value", "_law_char"]
theorem sc_law_is_name : FnScope N_law_is_name ["_law_value"] (defScope s_law_is_name) := ⟨rfl, rfl, rfl, by decide +kernel, rfl, by decide +kernel, by decide +kernel⟩
abbrev N_law_wanted_run : List PySem.Str := ["_law_script", "_law_steps_here", "_law_wanted", "_law_start", "_law_run", "_law_state", "_law_at", "_law_choices", "_law_number"]
theorem sc_law_wanted_run : FnScope N_law_wanted_run ["_law_script", "_law_steps_here", "_law_wanted", "_law_start"] (defScope s_law_wanted_run) := ⟨rfl, rfl, rfl, by decide +kernel, rfl, by decide +kernel, by decide +kernel⟩
abbrev N_law_spoilt : List PySem.Str := ["_law_stream_here", "_law_sights", "_law_names_here", "_law_kind", "_law_at", "_law_things"]
theorem sc_law_spoilt : FnScope N_law_spoilt ["_law_stream_here", "_law_sights", "_law_names_here"] (defScope s_law_spoilt) := ⟨rfl, rfl, rfl, by decide +kernel, rfl, by decide +kernel, by decide +kernel⟩
abbrev N_law_due : List PySem.Str := ["_law_steps_here", "_law_wanted", "_law_start", "_law_table", "_law_row", "_law_states_here", "_law_at", "_law_sight"]
theorem sc_law_due : FnScope N_law_due ["_law_steps_here", "_law_wanted", "_law_start", "_law_table", "_law_row"] (defScope s_law_due) := ⟨rfl, rfl, rfl, by decide +kernel, rfl, by decide +kernel, by decide +kernel⟩
abbrev N_law_ask : List PySem.Str := ["_law_plant", "_law_view_here", "_law_row", "e"]
theorem sc_law_ask : FnScope N_law_ask ["_law_plant", "_law_view_here", "_law_row"] (defScope s_law_ask) := ⟨rfl, rfl, rfl, by decide +kernel, rfl, by decide +kernel, by decide +kernel⟩
abbrev N_law : List PySem.Str := ["_law_script", "_law_stream_here", "_law_states_here", "_law_words", "_law_steps_here", "_law_wanted", "_law_barred", "_law_spoiler", "_law_table", "_law_holds", "_law_plant", "_law_view_here", "_law_run", "_law_sights", "_law_row", "_law_parts", "_law_part", "_law_due_here", "_law_told", "_law_number", "_law_count"]
theorem sc_law : FnScope N_law ["_law_script"] (defScope s_law) := ⟨rfl, rfl, rfl, by decide +kernel, rfl, by decide +kernel, by decide +kernel⟩
abbrev N_is_integer : List PySem.Str := ["thing"]
theorem sc_is_integer : FnScope N_is_integer ["thing"] (defScope s_is_integer) := ⟨rfl, rfl, rfl, by decide +kernel, rfl, by decide +kernel, by decide +kernel⟩
abbrev N_is_name : List PySem.Str := ["thing", "letter"]
theorem sc_is_name : FnScope N_is_name ["thing"] (defScope s_is_name) := ⟨rfl, rfl, rfl, by decide +kernel, rfl, by decide +kernel, by decide +kernel⟩
abbrev N_is_state : List PySem.Str := ["thing"]
theorem sc_is_state : FnScope N_is_state ["thing"] (defScope s_is_state) := ⟨rfl, rfl, rfl, by decide +kernel, rfl, by decide +kernel, by decide +kernel⟩
abbrev N_is_row : List PySem.Str := ["thing"]
theorem sc_is_row : FnScope N_is_row ["thing"] (defScope s_is_row) := ⟨rfl, rfl, rfl, by decide +kernel, rfl, by decide +kernel, by decide +kernel⟩
abbrev N_is_step : List PySem.Str := ["thing"]
theorem sc_is_step : FnScope N_is_step ["thing"] (defScope s_is_step) := ⟨rfl, rfl, rfl, by decide +kernel, rfl, by decide +kernel, by decide +kernel⟩
abbrev N_check_steps : List PySem.Str := ["steps", "earlier", "leaving", "at", "step"]
theorem sc_check_steps : FnScope N_check_steps ["steps"] (defScope s_check_steps) := ⟨rfl, rfl, rfl, by decide +kernel, rfl, by decide +kernel, by decide +kernel⟩
abbrev N_words_of : List PySem.Str := ["steps", "step"]
theorem sc_words_of : FnScope N_words_of ["steps"] (defScope s_words_of) := ⟨rfl, rfl, rfl, by decide +kernel, rfl, by decide +kernel, by decide +kernel⟩
abbrev N_check_marks : List PySem.Str := ["numbers", "allowed", "earlier", "number"]
theorem sc_check_marks : FnScope N_check_marks ["numbers", "allowed"] (defScope s_check_marks) := ⟨rfl, rfl, rfl, by decide +kernel, rfl, by decide +kernel, by decide +kernel⟩
abbrev N_without : List PySem.Str := ["numbers", "gone", "number"]
theorem sc_without : FnScope N_without ["numbers", "gone"] (defScope s_without) := ⟨rfl, rfl, rfl, by decide +kernel, rfl, by decide +kernel, by decide +kernel⟩
abbrev N_targets_by_state : List PySem.Str := ["steps", "targets", "step"]
theorem sc_targets_by_state : FnScope N_targets_by_state ["steps"] (defScope s_targets_by_state) := ⟨rfl, rfl, rfl, by decide +kernel, rfl, by decide +kernel, by decide +kernel⟩
abbrev N_states_from : List PySem.Str := ["states", "steps", "targets", "reached", "waiting", "state", "target"]
theorem sc_states_from : FnScope N_states_from ["states", "steps"] (defScope s_states_from) := ⟨rfl, rfl, rfl, by decide +kernel, rfl, by decide +kernel, by decide +kernel⟩
abbrev N_is_index : List PySem.Str := ["thing", "size"]
theorem sc_is_index : FnScope N_is_index ["thing", "size"] (defScope s_is_index) := ⟨rfl, rfl, rfl, by decide +kernel, rfl, by decide +kernel, by decide +kernel⟩
abbrev N_steps_of : List PySem.Str := ["plant", "run", "steps", "state", "done", "at", "number"]
theorem sc_steps_of : FnScope N_steps_of ["plant", "run"] (defScope s_steps_of) := ⟨rfl, rfl, rfl, by decide +kernel, rfl, by decide +kernel, by decide +kernel⟩
abbrev N_end_of : List PySem.Str := ["plant", "run", "done"]
theorem sc_end_of : FnScope N_end_of ["plant", "run"] (defScope s_end_of) := ⟨rfl, rfl, rfl, by decide +kernel, rfl, by decide +kernel, by decide +kernel⟩
abbrev N_sights_of : List PySem.Str := ["plant", "view", "run", "sights", "step"]
theorem sc_sights_of : FnScope N_sights_of ["plant", "view", "run"] (defScope s_sights_of) := ⟨rfl, rfl, rfl, by decide +kernel, rfl, by decide +kernel, by decide +kernel⟩
abbrev N_wanted_by_sight : List PySem.Str := ["plant", "view", "steps", "sights", "table", "number", "step"]
theorem sc_wanted_by_sight : FnScope N_wanted_by_sight ["plant", "view"] (defScope s_wanted_by_sight) := ⟨rfl, rfl, rfl, by decide +kernel, rfl, by decide +kernel, by decide +kernel⟩
abbrev N_first_ends : List PySem.Str := ["plant", "table"]
theorem sc_first_ends : FnScope N_first_ends ["plant", "table"] (defScope s_first_ends) := ⟨rfl, rfl, rfl, by decide +kernel, rfl, by decide +kernel, by decide +kernel⟩
abbrev N_ends_after : List PySem.Str := ["table", "ends", "sight", "targets", "step"]
theorem sc_ends_after : FnScope N_ends_after ["table", "ends", "sight"] (defScope s_ends_after) := ⟨rfl, rfl, rfl, by decide +kernel, rfl, by decide +kernel, by decide +kernel⟩
abbrev N_wanted_ends : List PySem.Str := ["plant", "view", "sights", "table", "ends", "at", "sight"]
theorem sc_wanted_ends : FnScope N_wanted_ends ["plant", "view", "sights"] (defScope s_wanted_ends) := ⟨rfl, rfl, rfl, by decide +kernel, rfl, by decide +kernel, by decide +kernel⟩
abbrev N_check_sights : List PySem.Str := ["sights", "word", "sight"]
theorem sc_check_sights : FnScope N_check_sights ["sights"] (defScope s_check_sights) := ⟨rfl, rfl, rfl, by decide +kernel, rfl, by decide +kernel, by decide +kernel⟩
abbrev N_check_words : List PySem.Str := ["words", "word"]
theorem sc_check_words : FnScope N_check_words ["words"] (defScope s_check_words) := ⟨rfl, rfl, rfl, by decide +kernel, rfl, by decide +kernel, by decide +kernel⟩
abbrev N_Plant___init__ : List PySem.Str := ["self", "start", "steps", "wanted", "barred", "numbers"]
theorem sc_Plant___init__ : FnScope N_Plant___init__ ["self", "start", "steps", "wanted", "barred"] (defScope s_Plant___init__) := ⟨rfl, rfl, rfl, by decide +kernel, rfl, by decide +kernel, by decide +kernel⟩
abbrev N_Plant_start : List PySem.Str := ["self"]
theorem sc_Plant_start : FnScope N_Plant_start ["self"] (defScope s_Plant_start) := ⟨rfl, rfl, rfl, by decide +kernel, rfl, by decide +kernel, by decide +kernel⟩
abbrev N_Plant_steps : List PySem.Str := ["self"]
theorem sc_Plant_steps : FnScope N_Plant_steps ["self"] (defScope s_Plant_steps) := ⟨rfl, rfl, rfl, by decide +kernel, rfl, by decide +kernel, by decide +kernel⟩
abbrev N_Plant_wanted : List PySem.Str := ["self"]
theorem sc_Plant_wanted : FnScope N_Plant_wanted ["self"] (defScope s_Plant_wanted) := ⟨rfl, rfl, rfl, by decide +kernel, rfl, by decide +kernel, by decide +kernel⟩
abbrev N_View___init__ : List PySem.Str := ["self", "sights", "holds"]
theorem sc_View___init__ : FnScope N_View___init__ ["self", "sights", "holds"] (defScope s_View___init__) := ⟨rfl, rfl, rfl, by decide +kernel, rfl, by decide +kernel, by decide +kernel⟩
abbrev N_View___eq__ : List PySem.Str := ["self", "other"]
theorem sc_View___eq__ : FnScope N_View___eq__ ["self", "other"] (defScope s_View___eq__) := ⟨rfl, rfl, rfl, by decide +kernel, rfl, by decide +kernel, by decide +kernel⟩
abbrev N_View_sights : List PySem.Str := ["self"]
theorem sc_View_sights : FnScope N_View_sights ["self"] (defScope s_View_sights) := ⟨rfl, rfl, rfl, by decide +kernel, rfl, by decide +kernel, by decide +kernel⟩
abbrev s_BadSights___init__ : Stmt := inClass (top 9) 0
/-- what the module holds: the built-in names, the constants -/
structure Bt (mg : PySem.Str → Option Value) : Prop where
  b_len : mg "len" = none
  b_min : mg "min" = none
  b_isinstance : mg "isinstance" = none
  b_sorted : mg "sorted" = none
  b_range : mg "range" = none
  b_enumerate : mg "enumerate" = none
  b_zip : mg "zip" = none
  b_all : mg "all" = none
  b_int : mg "int" = none
  b_list : mg "list" = none
  b_tuple : mg "tuple" = none
  b_set : mg "set" = none
  b_str : mg "str" = none
  b_bool : mg "bool" = none
  b_dict : mg "dict" = none
  b_max : mg "max" = none
  b_super : mg "super" = none
  c_LETTERS : ∃ u, mg "LETTERS" = some u ∧ RelV (.str "abcdefghijklmnopqrstuvwxyz") u
  c_LONGEST_NAME : ∃ u, mg "LONGEST_NAME" = some u ∧ RelV (.int 12) u
  c_LAST_STATE : ∃ u, mg "LAST_STATE" = some u ∧ RelV (.int 99) u
  c_MOST_STEPS : ∃ u, mg "MOST_STEPS" = some u ∧ RelV (.int 60) u
  c_MOST_STEPS_OF_STATE : ∃ u, mg "MOST_STEPS_OF_STATE" = some u ∧ RelV (.int 8) u
  c_MOST_WORDS : ∃ u, mg "MOST_WORDS" = some u ∧ RelV (.int 12) u

/-! ### words of our own -/
/-- a def as it stands behind the top, and its name -/
structure At (K : PySem.W.Frag) (mg : PySem.Str → Option Value) (x : PySem.Str) (st : Stmt) : Prop where
  ex : ∃ f fd, FunD K x x (defArgs st) (defBody st) (defScope st) [] [] f fd ∧ mg x = some (.ref f)
/-- a def that can be called: its promise, its defaults -/
structure Cl (P : Program) (w : World) (K : PySem.W.Frag) (mg : PySem.Str → Option Value) (base : Heap) (k : Nat) (x : PySem.Str) (sp : Sp) (dvs : List V) : Prop where
  ex : ∃ f fd ps ds, FnOk P w K mg base CX0 k f fd ps sp ∧ mg x = some (.ref f) ∧ PySem.W.keepIn K (.ref f) = true ∧ Binds K fd ps ds ∧ Vals dvs ds
/-- a class that makes its instances by __init__ -/
structure Mr (P : Program) (w : World) (K : PySem.W.Frag) (mg : PySem.Str → Option Value) (base : Heap) (k : Nat) (x : PySem.Str) (C : Addr) (sp : Sp) (dvs : List V) : Prop where
  ex : ∃ f fd ps ds, Mk K C f ∧ FnOk P w K mg base CX0 k f fd ps sp ∧ mg x = some (.ref C) ∧ Binds K fd ps ds ∧ Vals dvs ds
/-- a property of a class -/
structure Pr (P : Program) (w : World) (K : PySem.W.Frag) (mg : PySem.Str → Option Value) (base : Heap) (k : Nat) (C : Addr) (x : PySem.Str) (sp : Sp) : Prop where
  ex : ∃ p f fd ps, PropOf K C x p f ∧ Cls K C ∧ FnOk P w K mg base CX0 k f fd ps sp ∧ Binds K fd ps []
section
variable {P : Program} {w : World} {K : PySem.W.Frag} {mg : PySem.Str → Option Value} {base : Heap}
theorem At.cal {x : PySem.Str} {st : Stmt} {k : Nat} {sp : Sp} {ps : List PySem.Str} (A : At K mg x st) (ok : ∀ f fd, FunD K x x (defArgs st) (defBody st) (defScope st) [] [] f fd → FnOk P w K mg base CX0 k f fd ps sp)
    (b : ∀ (kV doc pm : Value) (an : Option Addr) (cdv ct : Value) (us : List Value), us.length = ps.length → bindArgs (PySem.W.fnOf x x (defArgs st) (defBody st) (defScope st) .none kV doc pm an cdv ct) ⟨us, []⟩ = pure (ps.zip us)) : Cl P w K mg base k x sp [] := by
  obtain ⟨f, fd, F, g⟩ := A.ex
  exact ⟨f, fd, ps, [], ok f fd F, g, F.kp, F.bindsN b, .nil⟩
end
section
variable {X : Cx} {k j : Nat} {C : Addr} {x : PySem.Str} {sp : Sp} {dvs : List V} {p pos : Pos} {e : Expr} {es : List Expr} {t : TA} {ta : TE}
theorem pe_cl (c : Cl X.prog X.w X.K X.mg X.base k x sp dvs) (hr : Room j X.A) (hk : k ≤ j) (hg : Gl X x) (ha : PA X (e :: es) t) (h1 : (x == ("__debug__" : PySem.Str)) = false := by decide)
    (h2 : starEach (e :: es) X.env = (false, eval e X.env) :: starEach es X.env := by rfl) (h3 : (backTo pos (starEach es X.env)).any (·.1) = false := by rfl) : PE X (.Call (.Name x p) (e :: es) [] pos) (tCall sp dvs E0 t) :=
  let ⟨_, _, _, _, F, hm, kp, b, d⟩ := c.ex
  pe_call F (hr.mono hk) hg hm kp b d pass0 ha h1 h2 h3
theorem pe_cl0 (c : Cl X.prog X.w X.K X.mg X.base k x sp dvs) (hr : Room j X.A) (hk : k ≤ j) (hg : Gl X x) (h1 : (x == ("__debug__" : PySem.Str)) = false := by decide) : PE X (.Call (.Name x p) [] [] pos) (tCall sp dvs E0 tNil) :=
  let ⟨_, _, _, _, F, hm, kp, b, d⟩ := c.ex
  pe_call0 F (hr.mono hk) hg hm kp b d pass0 h1
theorem pe_mr (c : Mr X.prog X.w X.K X.mg X.base k x C sp dvs) (hr : Room j X.A) (hk : k + 1 ≤ j) (hg : Gl X x) (ha : PA X (e :: es) t) (h1 : (x == ("__debug__" : PySem.Str)) = false := by decide)
    (h2 : starEach (e :: es) X.env = (false, eval e X.env) :: starEach es X.env := by rfl) (h3 : (backTo pos (starEach es X.env)).any (·.1) = false := by rfl) : PE X (.Call (.Name x p) (e :: es) [] pos) (tMake C sp dvs E0 t) :=
  let ⟨_, _, _, _, M, F, hm, b, d⟩ := c.ex
  pe_make M F (hr.mono hk) hg hm b d pass0 ha h1 h2 h3
theorem pe_pr (c : Pr X.prog X.w X.K X.mg X.base k C x sp) (hr : Room j X.A) (hk : k + 1 ≤ j) (he : PE X e ta) (hab : attributeBase e x X.env (eval e X.env) = eval e X.env) : PE X (.Attribute e x pos) (tProp C sp [] E0 ta) :=
  let ⟨_, _, _, _, hp, hc, F, b⟩ := c.ex
  pe_prop he hc hp F (hr.mono hk) b .nil pass0 hab
end
theorem hu64_of {A : Around} {k : Nat} (r : Room k A) : A.units + 64 < cLine := by have := r.un; omega
theorem hu65_of {A : Around} {k : Nat} (r : Room k A) : A.units + 65 < cLine := by have := r.un; omega
/-! rules within a comprehension's block: K told -/
theorem ixT (K : PySem.W.Frag) {X : Cx} (h : X.K = K := by rfl) : IxR X (rIxT K) := h ▸ ix_tup
theorem ixL (K : PySem.W.Frag) {X : Cx} (h : X.K = K := by rfl) : IxR X (rIxL K) := h ▸ ix_list
theorem opIn (K : PySem.W.Frag) {X : Cx} (h : X.K = K := by rfl) : OpR X (compareOp .In) (rIn K false) := h ▸ op_in_seq
theorem opNotIn (K : PySem.W.Frag) {X : Cx} (h : X.K = K := by rfl) : OpR X (compareOp .NotIn) (rIn K true) := h ▸ op_notIn_seq
theorem clLen (K : PySem.W.Frag) {X : Cx} (h : X.K = K := by rfl) : CallR X (.builtin "len") (fun xs H Q => ∃ p ys, xs = [.ref p] ∧ (SqL K H p ys ∨ SqT K H p ys) ∧ Q (.int ys.length) H) := h ▸ call_len_seq
theorem clIsi (K : PySem.W.Frag) {X : Cx} (h : X.K = K := by rfl) : CallR X (.builtin "isinstance") (rIsi K) := h ▸ call_isi
/-- all but what stands at a is kept -/
def But (a : Addr) (H H' : Hp) : Prop := ∀ b o, H b = some o → b ≠ a → H' b = some o
theorem But.refl {a : Addr} {H : Hp} : But a H H := fun _ _ h _ => h
theorem But.trans {a : Addr} {H H1 H2 : Hp} (p : But a H H1) (q : But a H1 H2) : But a H H2 := fun b o h n => q b o (p b o h n) n
theorem But.upd {a : Addr} {H : Hp} {o : HO} : But a H (L2.upd H a o) := fun b u h n => by rw [upd_ne n]; exact h
theorem But.new {a p : Addr} {H H' : Hp} {o : HO} (k : But a H H') (n : H' p = none) : But a H (L2.upd H' p o) := fun b u h ne => by
  have := k b u h ne
  rw [upd_ne (ne_of_none this n)]; exact this
theorem But.put {a p : Addr} {H H' : Hp} {o : HO} (k : But a H H') (n : H p = none) : But a H (L2.upd H' p o) := fun b u h ne => by
  rw [upd_ne (ne_of_none h n)]; exact k b u h ne
theorem But.of {a : Addr} {H H' : Hp} (k : Same H H') : But a H H' := fun b o h _ => k b o h
/-- three ints in a list: a stream of draws -/
def Stm (H : Hp) (a : Addr) : Prop := ∃ x y z : Int, H a = some (.lst [.int x, .int y, .int z])
theorem Stm.ne {H : Hp} {a b : Addr} {o : HO} (s : Stm H a) (h : H b = some o) (d : ∀ x y z : Int, o ≠ .lst [.int x, .int y, .int z]) : b ≠ a := by
  obtain ⟨x, y, z, e⟩ := s
  intro q
  rw [q, e] at h
  exact d x y z (Option.some.inj h).symm
theorem Stm.keep {H H' : Hp} {a : Addr} (s : Stm H a) (k : Same H H') : Stm H' a := let ⟨x, y, z, e⟩ := s; ⟨x, y, z, k _ _ e⟩
theorem Stm.new {H : Hp} {a p : Addr} {o : HO} (s : Stm H a) (n : H p = none) : Stm (L2.upd H p o) a := by
  obtain ⟨x, y, z, e⟩ := s
  exact ⟨x, y, z, by rw [upd_ne (ne_of_none e n)]; exact e⟩
theorem Stm.put {H : Hp} {a p : Addr} {o : HO} (s : Stm H a) (n : p ≠ a) : Stm (L2.upd H p o) a := by
  obtain ⟨x, y, z, e⟩ := s
  exact ⟨x, y, z, by rw [upd_ne n.symm]; exact e⟩
theorem seq_at {K : PySem.W.Frag} {H H' : Hp} {a : Addr} {xs : List V} (h : SqL K H a xs) (k : ∀ o, H a = some o → H' a = some o) : SqL K H' a xs := by
  rcases h with (h | ⟨o, h⟩) | h
  · exact .inl (.inl (k _ h))
  · exact .inl (.inr ⟨o, k _ h⟩)
  · exact .inr h
theorem atI_ok {xs : List V} {i : Int} {n : Nat} {v : V} (e : i = (n : Int)) (h : xs[n]? = some v) : atI xs i = some v := at_of e h
theorem same_new {H H' : Hp} {p : Addr} {o : HO} (k : Same H H') (n : H' p = none) : Same H (L2.upd H' p o) := fun b u h => by
  have := k b u h
  rw [upd_ne (ne_of_none this n)]; exact this
theorem same_put {H H' : Hp} {p : Addr} {o : HO} (k : Same H H') (n : H p = none) : Same H (L2.upd H' p o) := fun b u h => by
  rw [upd_ne (ne_of_none h n)]; exact k b u h
end Lw

namespace Lw
open PySem PySem.Spec PyProof.Rows L2 Txs
open C8 (pe_gc)
/-! ### the draws: slots 0 _law_stream_here, 1 _law_limit, 2 _law_number, 3 _law_rest -/
def spStream (K : PySem.W.Frag) : Sp := fun vs H Q _ => ∃ (a : Addr) (ns : List Int) (i : Nat), vs = [.ref a, .int (i : Int)] ∧ SqL K H a (ns.map V.int) ∧
  ∀ p H', Same H H' → H p = none → Stm H' p → Q (.ref p) H'
def spDraw : Sp := fun vs H Q _ => ∃ (a : Addr) (n : Int), vs = [.ref a, .int n] ∧ Stm H a ∧ 0 < n ∧ n.natAbs < 1073741824 ∧
  ∀ (r : Int) H', 0 ≤ r → r < n → But a H H' → Stm H' a → Q (.int r) H'
section
variable {P : Program} {w : World} {K : PySem.W.Frag} {mg : PySem.Str → Option Value} {base : Heap}
theorem ok_stream (T : Bt mg) {f : Addr} {fd : FuncData} (F : FunD K "_law_stream" "_law_stream" (defArgs s_law_stream) (defBody s_law_stream) (defScope s_law_stream) [] [] f fd) : FnOk P w K mg base CX0 1 f fd ["_law_script", "_law_at"] (spStream K) := by
  refine F.ok sc_law_stream (fun vs H Q E h => ?_) (fun cdv A outer s H vs Q E hr h => ?_)
  · obtain ⟨a, ns, i, rfl, _⟩ := h
    rfl
  · obtain ⟨a, ns, i, rfl, hS, k⟩ := h
    have hu := hu_of hr
    refine ⟨_, PSs.nox (pss_cons (ps_set (i := 2) sc_law_stream.nd rfl (Or.inl rfl) pe_int) (Evl.pss_cut (ps_if (pt_cmpR op_lt (pv 1) (pe_callB call_len_seq (by rfl) T.b_len PySem.boot_len (pa_cons (pv 0) pa_nil)) (nomark _)) (pss_one (ps_set (i := 2) sc_law_stream.nd rfl (Or.inl rfl) (pe_ix ix_list (pv 0) (pv 1) (fun _ _ => rfl)))) pss_nil) (pss_cons (ps_if (pt_cmpR op_ge (pv 2) (pe_op op_pow pe_int pe_int) (nomark _)) (pss_one (ps_ret (pe_lst (pa_cons (pv 2) (pa_cons pe_int (pa_cons (pv 1) pa_nil)))))) pss_nil) (pss_one (ps_ret (pe_lst (pa_cons pe_int (pa_cons pe_int (pa_cons (pe_op op_mod (pe_callTy call_int1 (by rfl) T.b_int (by decide +kernel) (pa_cons (pe_op op_add (pe_op op_mul (pv 2) pe_int) (pe_op op_mul (pv 1) pe_int)) pa_nil)) pe_int) pa_nil))))))))), ?_⟩
    -- the cell's value
    refine ⟨fun σ' H' => H' = H ∧ ∃ c : Int, σ' = [some (.ref a), some (.int (i : Int)), some (.int c)], ?_, ?_⟩
    · refine ⟨_, rfl, _, rfl, _, _, rfl, .inl hS, _, _, rfl, rfl, _, rfl, ite2 (fun lt => ?_) (fun _ => ⟨rfl, 0, rfl⟩)⟩
      have li : i < ns.length := by
        have := of_decide_eq_true lt
        rw [List.length_map] at this
        omega
      exact ⟨_, rfl, _, rfl, a, _, _, .int ns[i], rfl, rfl, hS, atI_ok rfl (by simp [li]), rfl, ns[i], rfl⟩
    · rintro σ' H' ⟨rfl, c, rfl⟩
      refine ⟨_, rfl, _, _, rfl, rfl, ⟨by decide, by decide, by decide⟩, _, _, rfl, rfl, _, rfl, ite2 (fun _ => ?_) (fun _ => ?_)⟩
      · refine ⟨_, rfl, _, rfl, (by show 3 ≤ sizeLine; decide), fun p hp => ?_⟩
        exact k p _ (same_new (Same.refl _) hp) hp ⟨_, _, _, upd_same⟩
      · refine ⟨_, rfl, _, _, rfl, rfl, .inr ⟨by decide, by decide⟩, _, rfl, _, _, rfl, rfl, .inr ⟨by decide, by decide⟩, _, _, rfl, rfl, .inl ⟨_, rfl, _, _, rfl, rfl, (by show (0 : Int) < 2147483647; decide), (by show 3 ≤ sizeLine; decide), fun p hp => ?_⟩⟩
        exact k p _ (same_new (Same.refl _) hp) hp ⟨_, _, _, upd_same⟩
theorem ok_draw (T : Bt mg) {f : Addr} {fd : FuncData} (F : FunD K "_law_draw" "_law_draw" (defArgs s_law_draw) (defBody s_law_draw) (defScope s_law_draw) [] [] f fd) : FnOk P w K mg base CX0 1 f fd ["_law_stream_here", "_law_limit"] spDraw := by
  refine F.ok sc_law_draw (fun vs H Q E h => ?_) (fun cdv A outer s H vs Q E hr h => ?_)
  · obtain ⟨a, n, rfl, _⟩ := h
    rfl
  · obtain ⟨a, n, rfl, ⟨x, y, z, hS⟩, n0, n1, k⟩ := h
    have hu := hu_of hr
    refine ⟨_, PSs.nox (pss_cons (ps_if (pt_cmpR op_gt (pe_ix ix_list (pv 0) pe_int (fun _ _ => rfl)) pe_int (nomark _)) (pss_cons (ps_set (i := 3) sc_law_draw.nd rfl (Or.inl rfl) (pe_ix ix_list (pv 0) pe_int (fun _ _ => rfl))) (pss_cons (ps_asg (pe_op op_fdivN (pv 3) (pv 1)) (pg_sub (pv 0) pe_int set_list)) (pss_one (ps_ret (pe_op op_modN (pe_callTy call_int1 (by rfl) T.b_int (by decide +kernel) (pa_cons (pv 3) pa_nil)) (pv 1)))))) pss_nil) (pss_cons (ps_asg (pe_op op_add (pe_ix ix_list (pv 0) pe_int (fun _ _ => rfl)) pe_int) (pg_sub (pv 0) pe_int set_list)) (pss_cons (ps_set (i := 2) sc_law_draw.nd rfl (Or.inl rfl) (pe_op op_mod (pe_callTy call_int1 (by rfl) T.b_int (by decide +kernel) (pa_cons (pe_op op_add (pe_op op_add (pe_op op_mul (pe_ix ix_list (pv 0) pe_int (fun _ _ => rfl)) pe_int) (pe_op op_mul (pe_ix ix_list (pv 0) pe_int (fun _ _ => rfl)) pe_int)) pe_int) pa_nil)) pe_int)) (pss_cons (ps_set (i := 2) sc_law_draw.nd rfl (Or.inl rfl) (pe_op op_mod (pe_callTy call_int1 (by rfl) T.b_int (by decide +kernel) (pa_cons (pe_op op_mul (pv 2) (pe_op op_add (pe_op op_fdiv (pv 2) pe_int) pe_int)) pa_nil)) pe_int)) (pss_cons (ps_asg (pv 2) (pg_sub (pv 0) pe_int set_list)) (pss_one (ps_ret (pe_op op_modN (pe_callTy call_int1 (by rfl) T.b_int (by decide +kernel) (pa_cons (pe_op op_fdiv (pv 2) pe_int) pa_nil)) (pv 1))))))))), ?_⟩
    refine ⟨_, rfl, a, _, _, .int x, rfl, rfl, SqL.of hS, rfl, _, _, rfl, rfl, _, rfl, ite2 (fun _ => ?_) (fun _ => ?_)⟩
    · refine ⟨_, rfl, a, _, _, .int x, rfl, rfl, SqL.of hS, rfl, ?_⟩
      refine ⟨_, rfl, _, rfl, _, _, rfl, rfl, ⟨by omega, n1⟩, _, rfl, a, _, _, 0, rfl, rfl, hS, rfl, ?_⟩
      refine ⟨_, rfl, .inl ⟨_, rfl, _, rfl, _, _, rfl, rfl, by omega, ?_⟩⟩
      exact k _ _ (Int.fmod_nonneg_of_pos _ n0) (Int.fmod_lt_of_pos _ n0) But.upd ⟨_, _, _, upd_same⟩
    · refine ⟨_, rfl, a, _, _, .int y, rfl, rfl, SqL.of hS, rfl, _, _, rfl, rfl, _, rfl, a, _, _, 1, rfl, rfl, hS, rfl, ?_⟩
      -- two numbers, one from the other
      refine ⟨_, rfl, a, _, _, .int z, rfl, rfl, SqL.of upd_same, rfl, _, _, rfl, rfl, .inr ⟨by decide, by decide⟩, _, rfl, a, _, _, .int (y + 1), rfl, rfl, SqL.of upd_same, rfl, _, _, rfl, rfl, .inr ⟨by decide, by decide⟩, _, _, rfl, rfl, _, _, rfl, rfl,
        .inl ⟨_, rfl, _, _, rfl, rfl, (by show (0 : Int) < 2147483647; decide), ?_⟩⟩
      have p0 : 0 ≤ (z * 48271 + (y + 1) * 40692 + 30103) % 2147483647 := Int.emod_nonneg _ (by decide)
      have p1 : (z * 48271 + (y + 1) * 40692 + 30103) % 2147483647 < 2147483647 := Int.emod_lt_of_pos _ (by decide)
      generalize (z * 48271 + (y + 1) * 40692 + 30103) % 2147483647 = m at p0 p1 ⊢
      refine ⟨_, rfl, _, rfl, _, _, rfl, rfl, ⟨by decide, by decide⟩, _, _, rfl, rfl, _, _, rfl, rfl, .inl ⟨by omega, by omega⟩, .inl ⟨_, rfl, _, _, rfl, rfl, (by show (0 : Int) < 2147483629; decide), ?_⟩⟩
      generalize (m * (m / 1009 + 69621)) % 2147483629 = v
      refine ⟨_, rfl, _, rfl, a, _, _, 2, rfl, rfl, upd_same, rfl, ?_⟩
      refine ⟨_, rfl, _, _, rfl, rfl, ⟨by decide, by decide⟩, .inl ⟨_, rfl, _, rfl, _, _, rfl, rfl, by omega, ?_⟩⟩
      exact k _ _ (Int.fmod_nonneg_of_pos _ n0) (Int.fmod_lt_of_pos _ n0) (But.trans But.upd But.upd) ⟨_, _, _, upd_same⟩
theorem cl_stream (T : Bt mg) (a : At K mg "_law_stream" s_law_stream) : Cl P w K mg base 1 "_law_stream" (spStream K) [] := a.cal (ps := ["_law_script", "_law_at"]) (fun _ _ F => ok_stream T F) (fun _ _ _ _ _ _ us hl => match us, hl with | [_, _], _ => rfl)
theorem cl_draw (T : Bt mg) (a : At K mg "_law_draw" s_law_draw) : Cl P w K mg base 1 "_law_draw" spDraw [] := a.cal (ps := ["_law_stream_here", "_law_limit"]) (fun _ _ F => ok_draw T F) (fun _ _ _ _ _ _ us hl => match us, hl with | [_, _], _ => rfl)
end
end Lw

namespace Lw
open PySem PySem.Spec PyProof.Rows L2 Txs
open C8 (pe_gc)
/-! ### names: slots 0 _law_stream_here, 1 _law_count, 2 _law_names_here, 3 _law_k, 4 _law_name, 5 _law_turn -/
def Nm (x : PySem.Str) : Prop := 0 < x.length ∧ x.length ≤ 12 ∧ ∀ c ∈ x.cps.toList, 97 ≤ c ∧ c ≤ 122
def abc : PySem.Str := "abcdefghijklmnopqrstuvwxyz"
theorem abc_at {i : Nat} (h : i < 26) : abc.cps.toList[i]? = some (97 + i) := by
  have e : abc.cps.toList = (List.range 26).map (97 + ·) := by decide +kernel
  rw [e, List.getElem?_map, List.getElem?_range h]
  rfl
def abl : PySem.Str := "abcdefghijkl"
theorem abl_at {i : Nat} (h : i < 12) : abl.cps.toList[i]? = some (97 + i) := by
  have e : abl.cps.toList = (List.range 12).map (97 + ·) := by decide +kernel
  rw [e, List.getElem?_map, List.getElem?_range h]
  rfl
theorem str_len_app (x y : PySem.Str) : (x ++ y).length = x.length + y.length := by
  show (x.cps ++ y.cps).size = x.cps.size + y.cps.size
  simp
theorem str_list_app (x y : PySem.Str) : (x ++ y).cps.toList = x.cps.toList ++ y.cps.toList := by
  show (x.cps ++ y.cps).toList = _
  simp
theorem nm_grow {x : PySem.Str} {c : Nat} {n : Nat} (h : x.length = n ∧ ∀ c ∈ x.cps.toList, 97 ≤ c ∧ c ≤ 122) (hc : 97 ≤ c ∧ c ≤ 122) : (x ++ (⟨#[c]⟩ : PySem.Str)).length = n + 1 ∧ ∀ d ∈ (x ++ (⟨#[c]⟩ : PySem.Str)).cps.toList, 97 ≤ d ∧ d ≤ 122 := by
  refine ⟨by rw [str_len_app, h.1]; rfl, fun d hd => ?_⟩
  rw [str_list_app] at hd
  rcases List.mem_append.mp hd with q | q
  · exact h.2 d q
  · have e : d = c := by simpa using q
    rw [e]; exact hc
def spNames : Sp := fun vs H Q _ => ∃ (a : Addr) (n : Nat), vs = [.ref a, .int (n : Int)] ∧ Stm H a ∧ n ≤ 12 ∧
  ∀ p (ws : List PySem.Str) H', H p = none → But a H H' → Stm H' a → H' p = some (.lst (ws.map V.str)) → ws.length = n → (∀ w ∈ ws, Nm w) → Q (.ref p) H'
theorem all_flat_strs (ws : List PySem.Str) : (ws.map V.str).all flatV = true := by
  rw [List.all_map, List.all_eq_true]
  intro _ _
  rfl
section
variable {P : Program} {w : World} {K : PySem.W.Frag} {mg : PySem.Str → Option Value} {base : Heap}
theorem ok_names (T : Bt mg) (c_law_draw : Cl P w K mg base 1 "_law_draw" spDraw []) {f : Addr} {fd : FuncData} (F : FunD K "_law_names" "_law_names" (defArgs s_law_names) (defBody s_law_names) (defScope s_law_names) [] [] f fd) : FnOk P w K mg base CX0 2 f fd ["_law_stream_here", "_law_count"] spNames := by
  refine F.ok sc_law_names (fun vs H Q E h => ?_) (fun cdv A outer s H vs Q E hr h => ?_)
  · obtain ⟨a, n, rfl, _⟩ := h
    rfl
  · obtain ⟨a, n, rfl, hS, n12, k⟩ := h
    have hu := hu_of hr
    refine ⟨_, PSs.nox (pss_cons (ps_set (i := 2) sc_law_names.nd rfl (Or.inl rfl) (pe_lst pa_nil)) (pss_cons (ps_for PassesOwn.never rfl (pi_range1 rfl T.b_range (pa_cons (pv 1) pa_nil)) (pg_name (i := 3) sc_law_names.nd rfl (Or.inl rfl)) (pss_cons (ps_set (i := 4) sc_law_names.nd rfl (Or.inl rfl) pe_str) (pss_cons (ps_for PassesOwn.never rfl (pi_range1 rfl T.b_range (pa_cons (pe_op op_add pe_int (pe_cl c_law_draw hr (by decide) rfl (pa_cons (pv 0) (pa_cons pe_int pa_nil)))) pa_nil)) (pg_name (i := 5) sc_law_names.nd rfl (Or.inl rfl)) (pss_one (ps_set (i := 4) sc_law_names.nd rfl (Or.inl rfl) (pe_op op_add_str (pv 4) (pe_ix ix_str pe_str (pe_cl c_law_draw hr (by decide) rfl (pa_cons (pv 0) (pa_cons pe_int pa_nil))) (fun _ _ => rfl)))))) (Evl.pss_cut (ps_if (pt_cmpR op_in_seq (pv 4) (pv 2) (by rfl)) (pss_one (ps_set (i := 4) sc_law_names.nd rfl (Or.inl rfl) (pe_op op_add_str pe_str (pe_ix ix_str pe_str (pv 3) (fun _ _ => rfl))))) pss_nil) (pss_one (ps_expr (pe_bm PySem.F.plainAttrs_list PySem.F.slot_list_append PySem.F.type_list_append mt_append (pv 2) (pa_cons (pv 4) pa_nil)))))))) (pss_one (ps_ret (pv 2))))), ?_⟩
    refine ⟨Nat.zero_le _, fun p hp => ?_⟩
    have npa : a ≠ p := by
      obtain ⟨x, y, z, e⟩ := hS
      exact ne_of_none e hp
    refine ⟨_, rfl, (n : Int), rfl, by omega, by omega, for_range (n := n) (fun i σ H' => ∃ (ws : List PySem.Str) (v1 v2 v3 : Option V), σ = [some (.ref a), some (.int (n : Int)), some (.ref p), v1, v2, v3] ∧ But a H H' ∧ Stm H' a ∧ H' p = some (.lst (ws.map V.str)) ∧ ws.length = i ∧ ∀ w ∈ ws, Nm w) ?_ ?_ ?_⟩
    · exact ⟨[], _, _, _, rfl, But.of (same_new (Same.refl H) hp), hS.new hp, upd_same, rfl, fun _ q => nomatch q⟩
    · rintro i σ H1 hi ⟨ws, v1, v2, v3, rfl, b1, s1, l1, len1, all1⟩
      -- the letters
      refine ⟨_, rfl, a, 3, rfl, s1, by decide, by decide, fun r H2 r0 r3 b2 s2 => ⟨_, _, rfl, rfl, _, rfl, by omega, by omega, ?_⟩⟩
      have l2 : H2 p = some (.lst (ws.map V.str)) := b2 _ _ l1 npa.symm
      refine for_range (n := (1 + r).toNat) (fun j σ H' => ∃ (x : PySem.Str) (v3 : Option V), σ = [some (.ref a), some (.int (n : Int)), some (.ref p), some (.int (0 + (i : Int))), some (.str x), v3] ∧ But a H H' ∧ Stm H' a ∧ H' p = some (.lst (ws.map V.str)) ∧ x.length = j ∧ ∀ c ∈ x.cps.toList, 97 ≤ c ∧ c ≤ 122) ?_ ?_ ?_
      · exact ⟨_, _, rfl, b1.trans b2, s2, l2, rfl, fun c q => nomatch q⟩
      · rintro j σ H3 hj ⟨x, v3, rfl, b3, s3, l3, xl, xa⟩
        refine ⟨_, rfl, _, rfl, a, 26, rfl, s3, by decide, by decide, fun q H4 q0 q26 b4 s4 => ?_⟩
        obtain ⟨m, rfl⟩ : ∃ m : Nat, q = (m : Int) := ⟨q.toNat, by omega⟩
        refine ⟨abc, _, 97 + m, rfl, rfl, by decide, atI_nat (abc_at (by omega)), _, _, rfl, rfl, ?_, ?_⟩
        · rw [xl]
          exact Nat.le_trans (by show j + 1 ≤ 100; omega) (by decide)
        · obtain ⟨g1, g2⟩ := nm_grow (c := 97 + m) ⟨xl, xa⟩ (by omega)
          exact ⟨_, _, rfl, b3.trans b4, s4, b4 _ _ l3 npa.symm, g1, g2⟩
      · rintro σ H3 ⟨x, v3, rfl, b3, s3, l3, xl, xa⟩
        have nx : Nm x := ⟨by omega, by omega, xa⟩
        refine ⟨fun σ' H' => ∃ (x : PySem.Str), σ' = [some (.ref a), some (.int (n : Int)), some (.ref p), some (.int (0 + (i : Int))), some (.str x), v3] ∧ H' = H3 ∧ Nm x, ?_, ?_⟩
        · refine ⟨_, rfl, _, rfl, p, _, rfl, .inl (SqL.of l3), rfl, all_flat_strs ws, _, rfl, ?_⟩
          refine ite2 (fun _ => ?_) (fun _ => ⟨x, rfl, rfl, nx⟩)
          refine ⟨_, rfl, abl, _, 97 + i, rfl, rfl, by decide, ?_, _, _, rfl, rfl, ?_, _, rfl, rfl, ?_⟩
          · rw [Int.zero_add]; exact atI_nat (abl_at (by omega))
          · show ("name" : PySem.Str).length + 1 ≤ sizeLine
            decide +kernel
          · have h4 : ("name" : PySem.Str).length = 4 ∧ ∀ c ∈ ("name" : PySem.Str).cps.toList, 97 ≤ c ∧ c ≤ 122 := by decide +kernel
            obtain ⟨g1, g2⟩ := nm_grow (c := 97 + i) h4 (by omega)
            exact ⟨by omega, by omega, g2⟩
        · rintro σ' H' ⟨y, rfl, rfl, ny⟩
          refine ⟨_, rfl, .inl ⟨rfl, _, SqL.of l3⟩, _, rfl, p, _, _, rfl, rfl, l3, ?_, ?_⟩
          · rw [List.length_map, len1]
            exact small1000 (by omega)
          · refine ⟨ws ++ [y], _, _, _, rfl, b3.put hp, s3.put npa.symm, ?_, ?_, ?_⟩
            · rw [List.map_append]; exact upd_same
            · rw [List.length_append, len1]; rfl
            · intro x hx
              rcases List.mem_append.mp hx with q | q
              · exact all1 x q
              · rw [List.mem_singleton.mp q]; exact ny
    · rintro σ H1 ⟨ws, v1, v2, v3, rfl, b1, s1, l1, len1, all1⟩
      exact ⟨_, rfl, k p ws H1 hp b1 s1 l1 len1 all1⟩
theorem cl_names (T : Bt mg) (c_law_draw : Cl P w K mg base 1 "_law_draw" spDraw []) (a : At K mg "_law_names" s_law_names) : Cl P w K mg base 2 "_law_names" spNames [] := a.cal (ps := ["_law_stream_here", "_law_count"]) (fun _ _ F => ok_names T c_law_draw F) (fun _ _ _ _ _ _ us hl => match us, hl with | [_, _], _ => rfl)
end
end Lw

namespace Lw
open PySem PySem.Spec PyProof.Rows L2 Txs
/-! ### steps as triples -/
abbrev Tr := Int × PySem.Str × Int
def trV (t : Tr) : List V := [.int t.1, .str t.2.1, .int t.2.2]
def trD (t : Tr) : PyData := .tuple [.int t.1, .str t.2.1, .int t.2.2]
def Laid (H : Hp) (as : List Addr) (ts : List Tr) : Prop := Paired (fun a t => H a = some (.tup (trV t))) as ts
theorem Laid.keep {H H' : Hp} {as : List Addr} {ts : List Tr} (h : Laid H as ts) (k : ∀ a t, H a = some (.tup (trV t)) → H' a = some (.tup (trV t))) : Laid H' as ts := Paired.mapP h fun a t => k a t
theorem Laid.len {H : Hp} {as : List Addr} {ts : List Tr} (h : Laid H as ts) : as.length = ts.length := Paired.length h
theorem Laid.at_ : ∀ {H : Hp} {as : List Addr} {ts : List Tr} {i : Nat} {t : Tr}, Laid H as ts → ts[i]? = some t → ∃ a, as[i]? = some a ∧ H a = some (.tup (trV t))
  | _, _, _, 0, _, .cons r _, e => by simp at e; subst e; exact ⟨_, rfl, r⟩
  | _, _, _, i + 1, _, .cons _ h, e => by
    obtain ⟨a, h1, h2⟩ := Laid.at_ (i := i) h (by simpa using e)
    exact ⟨a, by simpa using h1, h2⟩
  | _, _, _, i, _, .nil, e => by simp at e
theorem Laid.at' : ∀ {H : Hp} {as : List Addr} {ts : List Tr} {i : Nat} {a : Addr}, Laid H as ts → as[i]? = some a → ∃ t, ts[i]? = some t ∧ H a = some (.tup (trV t))
  | _, _, _, 0, _, .cons r _, e => by simp at e; subst e; exact ⟨_, rfl, r⟩
  | _, _, _, i + 1, _, .cons _ h, e => by
    obtain ⟨a, h1, h2⟩ := Laid.at' (i := i) h (by simpa using e)
    exact ⟨a, by simpa using h1, h2⟩
  | _, _, _, i, _, .nil, e => by simp at e
theorem Laid.snoc {H : Hp} {as : List Addr} {ts : List Tr} {a : Addr} {t : Tr} (h : Laid H as ts) (k : H a = some (.tup (trV t))) : Laid H (as ++ [a]) (ts ++ [t]) := by
  induction h with
  | nil => exact .cons k .nil
  | cons r _ ih => exact .cons r ih
theorem Laid.but {a : Addr} {H H' : Hp} {as : List Addr} {ts : List Tr} (h : Laid H as ts) (b : But a H H') (s : Stm H a) : Laid H' as ts := h.keep fun x t e => b _ _ e (s.ne e fun _ _ _ q => nomatch q)
theorem Laid.same {H H' : Hp} {as : List Addr} {ts : List Tr} (h : Laid H as ts) (b : Same H H') : Laid H' as ts := h.keep fun _ _ e => b _ _ e
theorem Laid.put {H : Hp} {p : Addr} {xs ys : List V} {as : List Addr} {ts : List Tr} (h : Laid H as ts) (e : H p = some (.lst xs)) : Laid (L2.upd H p (.lst ys)) as ts := h.keep fun x t q => by
  rw [upd_ne (ne_of q e fun z => nomatch z)]; exact q
theorem Laid.new {H : Hp} {p : Addr} {o : HO} {as : List Addr} {ts : List Tr} (h : Laid H as ts) (e : H p = none) : Laid (L2.upd H p o) as ts := h.keep fun x t q => by
  rw [upd_ne (ne_of_none q e)]; exact q
theorem nm_ok {x : PySem.Str} (h : Nm x) : PyData.strOk x = true := by
  unfold PyData.strOk
  rw [← Array.all_toList, List.all_eq_true]
  intro c hc
  have := h.2.2 c hc
  exact decide_eq_true (by omega)
theorem trD_lay {t : Tr} (h : PyData.strOk t.2.1 = true) : (trD t).canLay0 = true := by simp [trD, PyData.canLay0, PyData.canLayAll0, h]
theorem trD_depth (t : Tr) : (trD t).depth ≤ 2 := by simp [trD, PyData.depth, PyData.depthAll]
theorem trs_lay : ∀ {ts : List Tr}, (∀ t ∈ ts, PyData.strOk t.2.1 = true) → PyData.canLayAll0 (ts.map trD) = true
  | [], _ => by simp [PyData.canLayAll0]
  | t :: ts, h => by simp [PyData.canLayAll0, trD_lay (h t List.mem_cons_self), trs_lay fun u hu => h u (List.mem_cons_of_mem _ hu)]
theorem trs_depth : ∀ ts : List Tr, PyData.depthAll (ts.map trD) ≤ 2
  | [] => by simp [PyData.depthAll]
  | t :: ts => by
    have h1 := trs_depth ts
    have h2 := trD_depth t
    simp only [List.map_cons, PyData.depthAll]
    omega
theorem trD_shaped {t : Tr} (ok : PyData.strOk t.2.1 = true) : SeqAt.shaped (trD t) = true := by
  have h := trD_depth t
  show ((trD t).canLay0 && decide ((trD t).depth ≤ 64)) = true
  rw [trD_lay ok, decide_eq_true (by omega)]
  rfl
theorem trs_shaped {ts : List Tr} (ok : ∀ t ∈ ts, PyData.strOk t.2.1 = true) : SeqAt.shaped (.list (ts.map trD)) = true := by
  have h1 := trs_depth ts
  have h2 : PyData.depth (.list (ts.map trD)) ≤ 64 := by simp only [PyData.depth]; omega
  show ((PyData.list (ts.map trD)).canLay0 && decide ((PyData.list (ts.map trD)).depth ≤ 64)) = true
  rw [decide_eq_true h2, Bool.and_true]
  simp only [PyData.canLay0]
  exact trs_lay ok
theorem str_beq (a b : PySem.Str) : (a == b) = decide (a = b) := by
  by_cases h : a = b
  · subst h; simp
  · rw [decide_eq_false h]; exact beq_eq_false_iff_ne.mpr h
theorem trD_eqv (t u : Tr) : PyData.eqv (trD t) (trD u) = decide (t = u) := by
  obtain ⟨a, b, c⟩ := t
  obtain ⟨a', b', c'⟩ := u
  have e : PyData.eqv (trD (a, b, c)) (trD (a', b', c')) = ((a == a') && ((b == b') && ((c == c') && true))) := by simp only [trD, PyData.eqv, PyData.eqvAll]
  rw [e, str_beq, Bool.and_true, Bool.beq_eq_decide_eq, Bool.beq_eq_decide_eq, ← Bool.decide_and, ← Bool.decide_and]
  exact decide_eq_decide.mpr (by simp)
theorem trs_any (ts : List Tr) (t : Tr) : ((ts.map trD).any fun z => PyData.eqv z (trD t)) = decide (t ∈ ts) := by
  rw [List.any_map]
  have e : ((fun z => PyData.eqv z (trD t)) ∘ trD) = fun u => decide (u = t) := funext fun u => trD_eqv u t
  rw [e]
  by_cases h : t ∈ ts
  · rw [decide_eq_true h]; exact List.any_eq_true.mpr ⟨t, h, decide_eq_true rfl⟩
  · rw [decide_eq_false h]
    exact List.any_eq_false.mpr fun u hu => by
      intro q
      exact h (of_decide_eq_true q ▸ hu)
theorem dp_tr {K : PySem.W.Frag} {H : Hp} {a : Addr} {t : Tr} (h : H a = some (.tup (trV t))) : Dp K H (.ref a) (trD t) :=
  .tup (SqT.of h) (.cons (.int _) (.cons (.str _) (.cons (.int _) .nil)))
theorem dp_trs {K : PySem.W.Frag} {H : Hp} : ∀ {as : List Addr} {ts : List Tr}, Laid H as ts → DpAll K H (as.map V.ref) (ts.map trD)
  | _, _, .nil => .nil
  | _, _, .cons r h => .cons (dp_tr r) (dp_trs h)
theorem dp_list {K : PySem.W.Frag} {H : Hp} {p : Addr} {as : List Addr} {ts : List Tr} (h : SqL K H p (as.map V.ref)) (l : Laid H as ts) : Dp K H (.ref p) (.list (ts.map trD)) := .lst h (dp_trs l)
/-- good steps -/
structure Steps (ts : List Tr) : Prop where
  nd : ts.Nodup
  ok : ∀ t ∈ ts, (0 ≤ t.1 ∧ t.1 ≤ 99) ∧ Nm t.2.1 ∧ 0 ≤ t.2.2 ∧ t.2.2 ≤ 99
  few : ∀ s : Int, (ts.filter fun t => decide (t.1 = s)).length ≤ 8
theorem Steps.nil : Steps [] := ⟨List.nodup_nil, (fun _ h => nomatch h), fun _ => Nat.zero_le _⟩
theorem Steps.snoc {ts : List Tr} {t : Tr} (h : Steps ts) (n : t ∉ ts) (k : (0 ≤ t.1 ∧ t.1 ≤ 99) ∧ Nm t.2.1 ∧ 0 ≤ t.2.2 ∧ t.2.2 ≤ 99) (f : (ts.filter fun u => decide (u.1 = t.1)).length < 8) : Steps (ts ++ [t]) where
  nd := nd_snoc h.nd n
  ok := fun u hu => (List.mem_append.mp hu).elim (h.ok u) fun q => by rw [List.mem_singleton.mp q]; exact k
  few := fun s => by
    rw [List.filter_append, List.length_append]
    by_cases e : t.1 = s
    · subst e
      simp
      omega
    · have := h.few s
      simp [e]
      exact this
end Lw

namespace Lw
open PySem PySem.Spec PyProof.Rows L2 Txs
open C8 (pe_gc)
/-! ### states 0 _law_stream_here, 1 _law_count, 2 _law_base, 3 _law_k; marks 0 _law_stream_here, 1 _law_steps_here, 2 _law_wanted, 3 _law_barred, 4 _law_number, 5 _law_kind -/
def spStates : Sp := fun vs H Q _ => ∃ (a : Addr) (n : Nat), vs = [.ref a, .int (n : Int)] ∧ Stm H a ∧ n ≤ 100 ∧
  ∀ p (is : List Int) H', H p = none → But a H H' → Stm H' a → H' p = some (.lst (is.map V.int)) → is.length = n → (∀ i ∈ is, 0 ≤ i ∧ i ≤ 99) → Q (.ref p) H'
structure Marks (m : Nat) (ws bs : List Int) : Prop where
  w1 : ws.Pairwise (· < ·)
  b1 : bs.Pairwise (· < ·)
  w2 : ∀ x ∈ ws, 0 ≤ x ∧ x < (m : Int)
  b2 : ∀ x ∈ bs, 0 ≤ x ∧ x < (m : Int)
  no : ∀ x ∈ bs, x ∉ ws
theorem asc_snoc {l : List Int} {x : Int} (h : l.Pairwise (· < ·)) (k : ∀ y ∈ l, y < x) : (l ++ [x]).Pairwise (· < ·) :=
  List.pairwise_append.mpr ⟨h, List.pairwise_singleton _ _, fun y hy z hz => by rw [List.mem_singleton.mp hz]; exact k y hy⟩
theorem Marks.nil : Marks 0 [] [] := ⟨.nil, .nil, fun _ h => (nomatch h), fun _ h => (nomatch h), fun _ h => (nomatch h)⟩
theorem Marks.skip {m : Nat} {ws bs : List Int} (h : Marks m ws bs) : Marks (m + 1) ws bs := ⟨h.w1, h.b1, fun x hx => ⟨(h.w2 x hx).1, by have := (h.w2 x hx).2; omega⟩, fun x hx => ⟨(h.b2 x hx).1, by have := (h.b2 x hx).2; omega⟩, h.no⟩
theorem Marks.want {m : Nat} {ws bs : List Int} (h : Marks m ws bs) : Marks (m + 1) (ws ++ [(m : Int)]) bs where
  w1 := asc_snoc h.w1 fun y hy => (h.w2 y hy).2
  b1 := h.b1
  w2 := fun x hx => (List.mem_append.mp hx).elim (fun q => h.skip.w2 x q) fun q => by rw [List.mem_singleton.mp q]; omega
  b2 := h.skip.b2
  no := fun x hx q => (List.mem_append.mp q).elim (h.no x hx) fun z => by have := (h.b2 x hx).2; have e := List.mem_singleton.mp z; omega
theorem Marks.bar {m : Nat} {ws bs : List Int} (h : Marks m ws bs) : Marks (m + 1) ws (bs ++ [(m : Int)]) where
  w1 := h.w1
  b1 := asc_snoc h.b1 fun y hy => (h.b2 y hy).2
  w2 := h.skip.w2
  b2 := fun x hx => (List.mem_append.mp hx).elim (fun q => h.skip.b2 x q) fun q => by rw [List.mem_singleton.mp q]; omega
  no := fun x hx q => (List.mem_append.mp hx).elim (fun z => h.no x z q) fun z => by have := (h.w2 x q).2; have e := List.mem_singleton.mp z; omega
def spMarks (K : PySem.W.Frag) : Sp := fun vs H Q _ => ∃ (a b : Addr) (xs : List V), vs = [.ref a, .ref b] ∧ Stm H a ∧ SqL K H b xs ∧ xs.length ≤ 100 ∧
  ∀ p pw pb (ws bs : List Int) H', H p = none → H pw = none → H pb = none → pw ≠ pb → p ≠ pw → p ≠ pb → But a H H' → Stm H' a → H' p = some (.tup [.ref pw, .ref pb]) → H' pw = some (.lst (ws.map V.int)) → H' pb = some (.lst (bs.map V.int)) → Marks xs.length ws bs → Q (.ref p) H'
section
variable {P : Program} {w : World} {K : PySem.W.Frag} {mg : PySem.Str → Option Value} {base : Heap}
theorem ok_states (T : Bt mg) (c_law_draw : Cl P w K mg base 1 "_law_draw" spDraw []) {f : Addr} {fd : FuncData} (F : FunD K "_law_states" "_law_states" (defArgs s_law_states) (defBody s_law_states) (defScope s_law_states) [] [] f fd) : FnOk P w K mg base CX0 2 f fd ["_law_stream_here", "_law_count"] spStates := by
  refine F.ok sc_law_states (fun vs H Q E h => ?_) (fun cdv A outer s H vs Q E hr h => ?_)
  · obtain ⟨a, n, rfl, _⟩ := h
    rfl
  · obtain ⟨a, n, rfl, hS, n12, k⟩ := h
    have hu := hu_of hr
    refine ⟨_, PSs.nox (pss_cons (ps_set (i := 2) sc_law_states.nd rfl (Or.inr rfl) (pe_cl c_law_draw hr (by decide) rfl (pa_cons (pv 0) (pa_cons pe_int pa_nil)))) (pss_one (ps_ret (pe_lc (own := [("_law_k", 3)]) (tt := tYes) rfl sc_law_states.nd (pi_range1 rfl T.b_range (pa_cons (pv 1) pa_nil)) (blkOk_by (N := N_law_states) (sc := defScope s_law_states) (by decide +kernel)) (fun _ _ _ _ _ => (pg_name (i := 3) sc_law_states.nd rfl (Or.inl rfl))) (fun _ _ _ _ _ => pts_nil) (fun _ _ _ _ _ => (pe_op op_mod (pe_callTy call_int1 (by rfl) T.b_int (by decide +kernel) (pa_cons (pe_op op_add (pv 2) (pe_op op_mul pe_int (pv 3))) pa_nil)) pe_int)))))), ?_⟩
    refine ⟨_, rfl, a, 100, rfl, hS, by decide, by decide, fun r H1 r0 r1 b1 s1 => ?_⟩
    refine ⟨_, rfl, (n : Int), rfl, by omega, by omega, fun D hD => ?_⟩
    have hD0 : ∀ {o}, H a = some o → a ≠ D := fun {o} e => by
      obtain ⟨x, y, z, e1⟩ := s1
      exact ne_of_none e1 hD
    have sD : a ≠ D := by obtain ⟨x, y, z, e⟩ := hS; exact hD0 e
    refine lc_range (n := n) (fun i H' => ∃ is : List Int, But a H H' ∧ Stm H' a ∧ H' D = some (.lst (is.map V.int)) ∧ is.length = i ∧ ∀ i ∈ is, 0 ≤ i ∧ i ≤ 99) ?_ ?_ ?_
    · exact ⟨[], b1.new hD, s1.new hD, upd_same, rfl, fun _ q => nomatch q⟩
    · rintro i H2 hi ⟨is, b2, s2, l2, len, all⟩
      refine ⟨rfl, ?_⟩
      refine ⟨_, rfl, _, rfl, _, _, rfl, rfl, .inl ⟨by decide, by decide⟩, _, _, rfl, rfl, .inl ⟨_, rfl, _, _, rfl, rfl, (by show (0 : Int) < 100; decide), ?_⟩⟩
      have p0 := Int.emod_nonneg (r + 37 * (0 + (i : Int))) (show (100 : Int) ≠ 0 by decide)
      have p1 := Int.emod_lt_of_pos (r + 37 * (0 + (i : Int))) (show (0 : Int) < 100 by decide)
      refine ⟨_, l2, by rw [List.length_map, len]; exact small1000 (by omega), is ++ [(r + 37 * (0 + (i : Int))) % 100], fun x o e ne => ?_, s2.put sD.symm, ?_, by rw [List.length_append, len]; rfl, fun x hx => ?_⟩
      · have nx : x ≠ D := fun q => by
          have := b1 x o e ne
          rw [q, hD] at this
          cases this
        rw [upd_ne nx]; exact b2 x o e ne
      · rw [List.map_append]; exact upd_same
      · rcases List.mem_append.mp hx with q | q
        · exact all x q
        · rw [List.mem_singleton.mp q]; omega
    · rintro H2 ⟨is, b2, s2, l2, len, all⟩
      refine k D is H2 ?_ b2 s2 l2 len all
      cases q : H D with
      | none => rfl
      | some o =>
        have := b1 D o q sD.symm
        rw [hD] at this; cases this
theorem ok_marks (T : Bt mg) (c_law_draw : Cl P w K mg base 1 "_law_draw" spDraw []) {f : Addr} {fd : FuncData} (F : FunD K "_law_marks" "_law_marks" (defArgs s_law_marks) (defBody s_law_marks) (defScope s_law_marks) [] [] f fd) : FnOk P w K mg base CX0 2 f fd ["_law_stream_here", "_law_steps_here"] (spMarks K) := by
  refine F.ok sc_law_marks (fun vs H Q E h => ?_) (fun cdv A outer s H vs Q E hr h => ?_)
  · obtain ⟨a, b, xs, rfl, _⟩ := h
    rfl
  · obtain ⟨a, b, xs, rfl, hS, hL, lx, k⟩ := h
    have hu := hu_of hr
    refine ⟨_, PSs.nox (pss_cons (ps_set (i := 2) sc_law_marks.nd rfl (Or.inl rfl) (pe_lst pa_nil)) (pss_cons (ps_set (i := 3) sc_law_marks.nd rfl (Or.inl rfl) (pe_lst pa_nil)) (pss_cons (ps_for PassesOwn.never rfl (pi_range1 rfl T.b_range (pa_cons (pe_callB call_len_seq (by rfl) T.b_len PySem.boot_len (pa_cons (pv 1) pa_nil)) pa_nil)) (pg_name (i := 4) sc_law_marks.nd rfl (Or.inl rfl)) (pss_cons (ps_set (i := 5) sc_law_marks.nd rfl (Or.inl rfl) (pe_cl c_law_draw hr (by decide) rfl (pa_cons (pv 0) (pa_cons pe_int pa_nil)))) (pss_cons (ps_if (pt_cmpR op_lt (pv 5) pe_int (nomark _)) (pss_one (ps_expr (pe_bm PySem.F.plainAttrs_list PySem.F.slot_list_append PySem.F.type_list_append mt_append (pv 2) (pa_cons (pv 4) pa_nil)))) pss_nil) (pss_one (ps_if (pt_cmpR op_eq (pv 5) pe_int (nomark _)) (pss_one (ps_expr (pe_bm PySem.F.plainAttrs_list PySem.F.slot_list_append PySem.F.type_list_append mt_append (pv 3) (pa_cons (pv 4) pa_nil)))) pss_nil))))) (pss_one (ps_ret (pe_tup (pa_cons (pv 2) (pa_cons (pv 3) pa_nil)))))))), ?_⟩
    refine ⟨Nat.zero_le _, fun pw hw => ?_⟩
    refine ⟨Nat.zero_le _, fun pb hb => ?_⟩
    have nwb : pw ≠ pb := fun q => by rw [q] at hb; rw [upd_same] at hb; cases hb
    have hb0 : H pb = none := by rw [upd_ne nwb.symm] at hb; exact hb
    have naw : a ≠ pw := by obtain ⟨x, y, z, e⟩ := hS; exact ne_of_none e hw
    have nab : a ≠ pb := by obtain ⟨x, y, z, e⟩ := hS; exact ne_of_none e hb0
    have hL1 : SqL K (L2.upd (L2.upd H pw (.lst [])) pb (.lst [])) b xs := seq_at hL fun o e => by
      rw [upd_ne (ne_of_none e hb0), upd_ne (ne_of_none e hw)]; exact e
    refine ⟨_, rfl, b, xs, rfl, .inl hL1, (xs.length : Int), rfl, by omega, by omega, for_range (n := xs.length) (fun i σ H' => ∃ (ws bs : List Int) (v4 v5 : Option V), σ = [some (.ref a), some (.ref b), some (.ref pw), some (.ref pb), v4, v5] ∧ But a H H' ∧ Stm H' a ∧
      H' pw = some (.lst (ws.map V.int)) ∧ H' pb = some (.lst (bs.map V.int)) ∧ ws.length ≤ i ∧ bs.length ≤ i ∧ Marks i ws bs) ?_ ?_ ?_⟩
    · exact ⟨[], [], _, _, rfl, (But.of (same_new (Same.refl H) hw)).put hb0, (hS.new hw).put nab.symm, by rw [upd_ne nwb]; exact upd_same, upd_same, Nat.le_refl _, Nat.le_refl _, Marks.nil⟩
    · rintro i σ H1 hi ⟨ws, bs, v4, v5, rfl, b1, s1, l1, m1, lw, lb, mk⟩
      refine ⟨_, rfl, a, 4, rfl, s1, by decide, by decide, fun r H2 r0 r4 b2 s2 => ?_⟩
      have l2 := b2 _ _ l1 naw.symm
      have m2 := b2 _ _ m1 nab.symm
      refine ⟨_, rfl, _, _, rfl, rfl, _, rfl, ite2 (fun lt => ?_) (fun ge => ?_)⟩
      · have lt : r < 2 := of_decide_eq_true lt
        refine ⟨_, rfl, .inl ⟨rfl, _, SqL.of l2⟩, _, rfl, pw, _, _, rfl, rfl, l2, by rw [List.length_map]; exact small1000 (by omega), ?_⟩
        refine ⟨_, rfl, rfl, _, rfl, ?_⟩
        rw [show decide (V.int r = V.int 2) = false from decide_eq_false fun q => by cases q; omega]
        refine iteF ⟨ws ++ [(i : Int)], bs, _, _, rfl, (b1.trans b2).put hw, s2.put naw.symm, ?_, by rw [upd_ne nwb.symm]; exact m2, by rw [List.length_append]; exact Nat.succ_le_succ lw, by omega, mk.want⟩
        rw [List.map_append, List.map_singleton, Int.zero_add]; exact upd_same
      · have ge : ¬ r < 2 := fun q => ge (decide_eq_true q)
        refine ⟨_, rfl, rfl, _, rfl, ite2 (fun e2 => ?_) (fun _ => ?_)⟩
        · refine ⟨_, rfl, .inl ⟨rfl, _, SqL.of m2⟩, _, rfl, pb, _, _, rfl, rfl, m2, by rw [List.length_map]; exact small1000 (by omega), ?_⟩
          refine ⟨ws, bs ++ [(i : Int)], _, _, rfl, (b1.trans b2).put hb0, s2.put nab.symm, by rw [upd_ne nwb]; exact l2, ?_, by omega, by rw [List.length_append]; exact Nat.succ_le_succ lb, mk.bar⟩
          rw [List.map_append, List.map_singleton, Int.zero_add]; exact upd_same
        · exact ⟨ws, bs, _, _, rfl, b1.trans b2, s2, l2, m2, by omega, by omega, mk.skip⟩
    · rintro σ H1 ⟨ws, bs, v4, v5, rfl, b1, s1, l1, m1, lw, lb, mk⟩
      refine ⟨_, rfl, _, rfl, (by show 2 ≤ sizeLine; decide), fun p hp => ?_⟩
      have hp0 : H p = none := by
        cases q : H p with
        | none => rfl
        | some o =>
          by_cases e : p = a
          · obtain ⟨x, y, z, e1⟩ := s1
            rw [e, e1] at hp; cases hp
          · rw [b1 p o q e] at hp; cases hp
      have n1 : pw ≠ p := ne_of_none l1 hp
      have n2 : pb ≠ p := ne_of_none m1 hp
      exact k p pw pb ws bs _ hp0 hw hb0 nwb n1.symm n2.symm (b1.new hp) (s1.new hp) upd_same (by rw [upd_ne n1]; exact l1) (by rw [upd_ne n2]; exact m1) mk
theorem cl_marks (T : Bt mg) (c_law_draw : Cl P w K mg base 1 "_law_draw" spDraw []) (a : At K mg "_law_marks" s_law_marks) : Cl P w K mg base 2 "_law_marks" (spMarks K) [] := a.cal (ps := ["_law_stream_here", "_law_steps_here"]) (fun _ _ F => ok_marks T c_law_draw F) (fun _ _ _ _ _ _ us hl => match us, hl with | [_, _], _ => rfl)
theorem cl_states (T : Bt mg) (c_law_draw : Cl P w K mg base 1 "_law_draw" spDraw []) (a : At K mg "_law_states" s_law_states) : Cl P w K mg base 2 "_law_states" spStates [] := a.cal (ps := ["_law_stream_here", "_law_count"]) (fun _ _ F => ok_states T c_law_draw F) (fun _ _ _ _ _ _ us hl => match us, hl with | [_, _], _ => rfl)
end
end Lw

namespace Lw
open PySem PySem.Spec PyProof.Rows L2 Txs
open C8 (pe_gc)
/-! ### steps 0 _law_stream_here, 1 _law_states_here, 2 _law_words, 3 _law_many, 4 _law_steps_here, 5 _law_turn, 6 _law_first, 7 _law_word, 8 _law_last, 9 _law_leaving, 10 _law_step -/
def spSteps : Sp := fun vs H Q _ => ∃ (a b c : Addr) (n : Nat) (is : List Int) (ws : List PySem.Str), vs = [.ref a, .ref b, .ref c, .int (n : Int)] ∧ Stm H a ∧ b ≠ a ∧ c ≠ a ∧ H b = some (.lst (is.map V.int)) ∧ H c = some (.lst (ws.map V.str)) ∧
  0 < is.length ∧ is.length ≤ 100 ∧ 0 < ws.length ∧ ws.length ≤ 100 ∧ (∀ i ∈ is, 0 ≤ i ∧ i ≤ 99) ∧ (∀ w ∈ ws, Nm w) ∧ 0 < n ∧ n ≤ 60 ∧
  ∀ p (as : List Addr) (ts : List Tr) H', H p = none → But a H H' → Stm H' a → H' p = some (.lst (as.map V.ref)) → Laid H' as ts → Steps ts → (∀ t ∈ ts, t.1 ∈ is ∧ t.2.1 ∈ ws ∧ t.2.2 ∈ is) → 0 < ts.length → ts.length ≤ n → Q (.ref p) H'
theorem mem_at {α : Type} {l : List α} {i : Nat} (h : i < l.length) : ∃ x, l[i]? = some x ∧ x ∈ l := ⟨l[i], List.getElem?_eq_getElem h, List.getElem_mem h⟩
section
variable {P : Program} {w : World} {K : PySem.W.Frag} {mg : PySem.Str → Option Value} {base : Heap}
theorem ok_steps (T : Bt mg) (c_law_draw : Cl P w K mg base 1 "_law_draw" spDraw []) {f : Addr} {fd : FuncData} (F : FunD K "_law_steps" "_law_steps" (defArgs s_law_steps) (defBody s_law_steps) (defScope s_law_steps) [] [] f fd) : FnOk P w K mg base CX0 2 f fd ["_law_stream_here", "_law_states_here", "_law_words", "_law_many"] spSteps := by
  refine F.ok sc_law_steps (fun vs H Q E h => ?_) (fun cdv A outer s H vs Q E hr h => ?_)
  · obtain ⟨a, b, c, n, is, ws, rfl, _⟩ := h
    rfl
  · obtain ⟨a, b, c, n, is, ws, rfl, hS, nba, nca, hb, hc, i0, i1, w0, w1, ia, wa, n0, n60, k⟩ := h
    have hu := hu_of hr
    have hu65 := hu65_of hr
    refine ⟨_, PSs.nox (pss_cons (ps_set (i := 4) sc_law_steps.nd rfl (Or.inl rfl) (pe_lst pa_nil)) (pss_cons (ps_for PassesOwn.never rfl (pi_range1 rfl T.b_range (pa_cons (pe_op op_add pe_int (pe_cl c_law_draw hr (by decide) rfl (pa_cons (pv 0) (pa_cons (pv 3) pa_nil)))) pa_nil)) (pg_name (i := 5) sc_law_steps.nd rfl (Or.inl rfl)) (pss_cons (ps_set (i := 6) sc_law_steps.nd rfl (Or.inr rfl) (pe_ix ix_list (pv 1) (pe_cl c_law_draw hr (by decide) rfl (pa_cons (pv 0) (pa_cons (pe_callB call_len_seq (by rfl) T.b_len PySem.boot_len (pa_cons (pv 1) pa_nil)) pa_nil))) (fun _ _ => rfl))) (pss_cons (ps_set (i := 7) sc_law_steps.nd rfl (Or.inl rfl) (pe_ix ix_list (pv 2) (pe_cl c_law_draw hr (by decide) rfl (pa_cons (pv 0) (pa_cons (pe_callB call_len_seq (by rfl) T.b_len PySem.boot_len (pa_cons (pv 2) pa_nil)) pa_nil))) (fun _ _ => rfl))) (pss_cons (ps_set (i := 8) sc_law_steps.nd rfl (Or.inl rfl) (pe_ix ix_list (pv 1) (pe_cl c_law_draw hr (by decide) rfl (pa_cons (pv 0) (pa_cons (pe_callB call_len_seq (by rfl) T.b_len PySem.boot_len (pa_cons (pv 1) pa_nil)) pa_nil))) (fun _ _ => rfl))) (pss_cons (ps_set (i := 9) sc_law_steps.nd rfl (Or.inl rfl) (pe_callB call_len_seq (by rfl) T.b_len PySem.boot_len (pa_cons (pe_lc (own := [("_law_step", 10)]) rfl sc_law_steps.nd (pi_list (pv 4)) (blkOk_by (N := N_law_steps) (sc := defScope s_law_steps) (by decide +kernel)) (fun _ _ _ _ _ => (pg_name (i := 10) sc_law_steps.nd rfl (Or.inl rfl))) (fun _ _ _ _ _ => (pts_one (pt_cmpR op_eq (pe_ix (ixT K) (pv 10) pe_int (fun _ _ => rfl)) (pv 6) (nomark _)))) (fun _ _ _ _ _ => (pv 10))) pa_nil))) (pss_one (ps_if (PW.pt (pw_and (pt_cmpR (op_notInD hu65) (pe_tup (pa_cons (pv 6) (pa_cons (pv 7) (pa_cons (pv 8) pa_nil)))) (pv 4) (by rfl)) (pw_and1 (pt_cmpR op_lt (pv 9) pe_int (nomark _))))) (pss_one (ps_expr (pe_bm PySem.F.plainAttrs_list PySem.F.slot_list_append PySem.F.type_list_append mt_append (pv 4) (pa_cons (pe_tup (pa_cons (pv 6) (pa_cons (pv 7) (pa_cons (pv 8) pa_nil)))) pa_nil)))) pss_nil))))))) (pss_one (ps_ret (pv 4))))), ?_⟩
    refine ⟨Nat.zero_le _, fun p hp => ?_⟩
    have nap : a ≠ p := by obtain ⟨x, y, z, e⟩ := hS; exact ne_of_none e hp
    refine ⟨_, rfl, _, rfl, a, (n : Int), rfl, hS.new hp, by omega, by omega, fun r H1 r0 rn b1 s1 => ⟨_, _, rfl, rfl, 1 + r, rfl, by omega, by omega, ?_⟩⟩
    have l1 : H1 p = some (.lst []) := b1 _ _ upd_same nap.symm
    have c1 : But a H H1 := (But.of (same_new (Same.refl H) hp)).trans b1
    refine for_range (n := (1 + r).toNat) (fun i σ H' => ∃ (as : List Addr) (ts : List Tr) (v5 v6 v7 v8 v9 : Option V), σ = [some (.ref a), some (.ref b), some (.ref c), some (.int (n : Int)), some (.ref p), v5, v6, v7, v8, v9, none] ∧ But a H H' ∧ Stm H' a ∧
      H' p = some (.lst (as.map V.ref)) ∧ Laid H' as ts ∧ Steps ts ∧ (∀ t ∈ ts, t.1 ∈ is ∧ t.2.1 ∈ ws ∧ t.2.2 ∈ is) ∧ ts.length ≤ i ∧ (0 < i → 0 < ts.length)) ?_ ?_ ?_
    · exact ⟨[], [], _, _, _, _, _, rfl, c1, s1, l1, .nil, Steps.nil, (fun _ q => nomatch q), Nat.le_refl _, fun q => absurd q (Nat.lt_irrefl _)⟩
    · rintro i σ H2 hi ⟨as, ts, v5, v6, v7, v8, v9, rfl, b2, s2, l2, L2_, st, frm, len, pos⟩
      -- a state, a word, a state
      refine ⟨_, rfl, _, rfl, _, rfl, b, _, rfl, .inl (SqL.of (b2 _ _ hb nba)), a, _, rfl, s2, by rw [List.length_map]; omega, by rw [List.length_map]; omega, fun d1 H3 d10 d11 b3 s3 => ?_⟩
      rw [List.length_map] at d11
      have c3 := b2.trans b3
      obtain ⟨m1, rfl⟩ : ∃ m : Nat, d1 = (m : Int) := ⟨d1.toNat, by omega⟩
      obtain ⟨x1, e1, x1m⟩ := mem_at (l := is) (i := m1) (by omega)
      refine ⟨b, _, _, .int x1, rfl, rfl, SqL.of (c3 _ _ hb nba), atI_nat (by rw [List.getElem?_map, e1]; rfl), ?_⟩
      refine ⟨_, rfl, _, rfl, _, rfl, c, _, rfl, .inl (SqL.of (c3 _ _ hc nca)), a, _, rfl, s3, by rw [List.length_map]; omega, by rw [List.length_map]; omega, fun d2 H4 d20 d21 b4 s4 => ?_⟩
      rw [List.length_map] at d21
      have c4 := c3.trans b4
      obtain ⟨m2, rfl⟩ : ∃ m : Nat, d2 = (m : Int) := ⟨d2.toNat, by omega⟩
      obtain ⟨x2, e2, x2m⟩ := mem_at (l := ws) (i := m2) (by omega)
      refine ⟨c, _, _, .str x2, rfl, rfl, SqL.of (c4 _ _ hc nca), atI_nat (by rw [List.getElem?_map, e2]; rfl), ?_⟩
      refine ⟨_, rfl, _, rfl, _, rfl, b, _, rfl, .inl (SqL.of (c4 _ _ hb nba)), a, _, rfl, s4, by rw [List.length_map]; omega, by rw [List.length_map]; omega, fun d3 H5 d30 d31 b5 s5 => ?_⟩
      rw [List.length_map] at d31
      have c5 := c4.trans b5
      obtain ⟨m3, rfl⟩ : ∃ m : Nat, d3 = (m : Int) := ⟨d3.toNat, by omega⟩
      obtain ⟨x3, e3, x3m⟩ := mem_at (l := is) (i := m3) (by omega)
      refine ⟨b, _, _, .int x3, rfl, rfl, SqL.of (c5 _ _ hb nba), atI_nat (by rw [List.getElem?_map, e3]; rfl), ?_⟩
      have b25 : But a H2 H5 := (b3.trans b4).trans b5
      have l5 := b25 _ _ l2 nap.symm
      have L5 : Laid H5 as ts := L2_.but b25 s2
      -- how many leave it
      refine ⟨_, rfl, p, rfl, ⟨_, SqL.of l5⟩, fun D hD => ?_⟩
      refine lc_list (K := K) (a := p) (xs := as.map V.ref) (fun j H' => Same H5 H' ∧ ∃ acc, H' D = some (.lst acc) ∧ acc.length = ((ts.take j).filter fun t => decide (t.1 = x1)).length) ?_ (fun j H' _ q => SqL.of (q.1 _ _ l5)) ?_ ?_
      · exact ⟨same_new (Same.refl _) hD, [], upd_same, rfl⟩
      · rintro j x H6 hj ⟨sm, acc, hA, al⟩
        obtain ⟨q, hq, rfl⟩ : ∃ q, as[j]? = some q ∧ x = V.ref q := by
          rw [List.getElem?_map] at hj
          cases z : as[j]? with
          | none => rw [z] at hj; cases hj
          | some q => rw [z] at hj; exact ⟨q, rfl, (Option.some.inj hj).symm⟩
        obtain ⟨t, ht, hqt⟩ := L5.at' hq
        have tk : ts.take (j + 1) = ts.take j ++ [t] := by rw [List.take_add_one, ht]; rfl
        have jl : j < ts.length := (List.getElem?_eq_some_iff.mp ht).1
        refine ⟨rfl, _, rfl, q, _, _, .int t.1, rfl, rfl, SqT.of (sm _ _ hqt), rfl, _, rfl, rfl, _, rfl, ite2 (fun y => ?_) (fun y => ?_)⟩
        · have y : t.1 = x1 := by have := of_decide_eq_true y; cases this; rfl
          refine ⟨_, rfl, acc, hA, ?_, same_put sm hD, acc ++ [.ref q], upd_same, ?_⟩
          · have := List.length_filter_le (fun t : Tr => decide (t.1 = x1)) (ts.take j)
            rw [List.length_take] at this
            exact small1000 (by omega)
          · rw [tk, List.filter_append, List.length_append, List.length_append, al]
            simp [y]
        · have y : ¬ t.1 = x1 := fun e => y (decide_eq_true (by rw [e]))
          refine ⟨sm, acc, hA, ?_⟩
          rw [tk, List.filter_append, List.length_append, al]
          simp [y]
      · rintro H6 ⟨sm, acc, hA, al⟩
        rw [List.length_map, L5.len, List.take_length] at al
        refine ⟨D, acc, rfl, .inl (SqL.of hA), ?_⟩
        have L6 := L5.same sm
        have l6 := sm _ _ l5
        have s6 := s5.keep sm
        have c6 := c5.trans (But.of (a := a) sm)
        have npD : p ≠ D := ne_of_none l5 hD
        -- is it new
        refine ⟨_, rfl, _, rfl, _, rfl, (by show 3 ≤ sizeLine; decide), fun q hq => ?_⟩
        have good : (0 ≤ (x1, x2, x3).1 ∧ (x1, x2, x3).1 ≤ 99) ∧ Nm (x1, x2, x3).2.1 ∧ 0 ≤ (x1, x2, x3).2.2 ∧ (x1, x2, x3).2.2 ≤ 99 := ⟨ia _ x1m, wa _ x2m, ia _ x3m⟩
        have sh : ∀ t ∈ ts, PyData.strOk t.2.1 = true := fun t ht => nm_ok (st.ok t ht).2.1
        refine ⟨_, rfl, trD (x1, x2, x3), ts.map trD, dp_tr upd_same, dp_list (SqL.of (by rw [upd_ne (ne_of_none l6 hq)]; exact l6)) (L6.new hq), trD_shaped (nm_ok good.2.1), trs_shaped sh, _, rfl, ?_⟩
        rw [trs_any]
        have s7 := s6.new hq (o := .tup [.int x1, .str x2, .int x3])
        have c7 : But a H (L2.upd H6 q (.tup [.int x1, .str x2, .int x3])) := c6.new hq
        have l7 : (L2.upd H6 q (.tup [.int x1, .str x2, .int x3])) p = some (.lst (as.map V.ref)) := by rw [upd_ne (ne_of_none l6 hq)]; exact l6
        have L7 := L6.new hq (o := .tup [.int x1, .str x2, .int x3])
        by_cases new : (x1, x2, x3) ∈ ts
        · rw [decide_eq_true new]
          exact ⟨as, ts, _, _, _, _, _, rfl, c7, s7, l7, L7, st, frm, by omega, fun _ => List.length_pos_of_mem new⟩
        · rw [decide_eq_false new]
          refine ⟨_, rfl, _, _, rfl, rfl, _, rfl, ite2 (fun y => ?_) (fun y => ?_)⟩
          · have y := of_decide_eq_true y
            refine ⟨_, rfl, .inl ⟨rfl, _, SqL.of l7⟩, _, rfl, _, rfl, _, rfl, (by show 3 ≤ sizeLine; decide), fun q2 hq2 => ?_⟩
            refine ⟨p, _, _, rfl, rfl, by rw [upd_ne (ne_of_none l7 hq2)]; exact l7, by rw [List.length_map, L7.len]; exact small1000 (by omega), ?_⟩
            have nq : q2 ≠ p := (ne_of_none l7 hq2).symm
            refine ⟨as ++ [q2], ts ++ [(x1, x2, x3)], _, _, _, _, _, rfl, (c7.new hq2).put hp, (s7.new hq2).put nap.symm, ?_, ?_, st.snoc new good (by show (ts.filter fun u => decide (u.1 = x1)).length < 8; omega), ?_, ?_, fun _ => ?_⟩
            · rw [List.map_append]; exact upd_same
            · refine Laid.snoc ((L7.new hq2).put (xs := as.map V.ref) (by rw [upd_ne nq.symm]; exact l7)) ?_
              rw [upd_ne nq]; exact upd_same
            · intro t ht
              rcases List.mem_append.mp ht with q | q
              · exact frm t q
              · rw [List.mem_singleton.mp q]; exact ⟨x1m, x2m, x3m⟩
            · rw [List.length_append]; exact Nat.succ_le_succ len
            · rw [List.length_append]; exact Nat.succ_pos _
          · refine ⟨as, ts, _, _, _, _, _, rfl, c7, s7, l7, L7, st, frm, by omega, fun _ => ?_⟩
            have y : ¬ ((acc.length : Nat) : Int) < 8 := fun z => y (decide_eq_true z)
            have := List.length_filter_le (fun t : Tr => decide (t.1 = x1)) ts
            omega
    · rintro σ H2 ⟨as, ts, v5, v6, v7, v8, v9, rfl, b2, s2, l2, L2_, st, frm, len, pos⟩
      exact ⟨_, rfl, k p as ts H2 hp b2 s2 l2 L2_ st frm (pos (by omega)) (by omega)⟩
theorem cl_steps (T : Bt mg) (c_law_draw : Cl P w K mg base 1 "_law_draw" spDraw []) (a : At K mg "_law_steps" s_law_steps) : Cl P w K mg base 2 "_law_steps" spSteps [] := a.cal (ps := ["_law_stream_here", "_law_states_here", "_law_words", "_law_many"]) (fun _ _ F => ok_steps T c_law_draw F) (fun _ _ _ _ _ _ us hl => match us, hl with | [_, _, _, _], _ => rfl)
end
end Lw

namespace Lw
open PySem PySem.Spec PyProof.Rows L2 Txs
open C8 (pe_gc)
/-! ### kinds of values -/
def nmB (x : PySem.Str) : Bool := decide (1 ≤ (x.length : Int)) && decide ((x.length : Int) ≤ 12) && x.cps.toList.all fun c => decide (c ∈ abc.cps.toList)
theorem abc_mem (c : Nat) : c ∈ abc.cps.toList ↔ 97 ≤ c ∧ c ≤ 122 := by
  have e : abc.cps.toList = (List.range 26).map (97 + ·) := by decide +kernel
  rw [e, List.mem_map]
  constructor
  · rintro ⟨i, hi, rfl⟩
    have := List.mem_range.mp hi
    omega
  · intro h
    exact ⟨c - 97, List.mem_range.mpr (by omega), by omega⟩
theorem nmB_iff {x : PySem.Str} : nmB x = true ↔ Nm x := by
  unfold nmB Nm
  rw [Bool.and_eq_true, Bool.and_eq_true, decide_eq_true_eq, decide_eq_true_eq, List.all_eq_true]
  constructor
  · rintro ⟨⟨a, b⟩, c⟩
    exact ⟨by omega, by omega, fun d hd => (abc_mem d).1 (of_decide_eq_true (c d hd))⟩
  · rintro ⟨a, b, c⟩
    exact ⟨⟨by omega, by omega⟩, fun d hd => decide_eq_true ((abc_mem d).2 (c d hd))⟩
/-- the built-in kind n of a value -/
abbrev Kd (K : PySem.W.Frag) (H : Hp) (x : V) (t : Value) : Prop := TyX K H x t
def spIsInt (K : PySem.W.Frag) : Sp := fun vs H Q _ => ∃ x t b1 b2, vs = [x] ∧ TyX K H x t ∧ PySem.W.kitOne K t (.type "int") = some b1 ∧ (b1 = true → PySem.W.kitOne K t (.type "bool") = some b2) ∧ Q (.bl (b1 && !b2)) H
theorem isInt_int {K : PySem.W.Frag} {H : Hp} {i : Int} {Q : VK} {E : XK} (q : Q (.bl true) H) : spIsInt K [.int i] H Q E :=
  ⟨_, _, true, false, rfl, .base (.int i), kit_ty (by decide +kernel), fun _ => kit_ty (by decide +kernel), q⟩
def spIsName (K : PySem.W.Frag) : Sp := fun vs H Q _ => (∃ z, vs = [.str z] ∧ z.length ≤ sizeLine ∧ Q (.bl (nmB z)) H) ∨ ∃ x t, vs = [x] ∧ TyX K H x t ∧ PySem.W.kitOne K t (.type "str") = some false ∧ Q (.bl false) H
def stB (i : Int) : Bool := decide (0 ≤ i) && decide (i ≤ 99)
def spIsState (K : PySem.W.Frag) : Sp := fun vs H Q _ => (∃ i, vs = [.int i] ∧ Q (.bl (stB i)) H) ∨
  ∃ x t b1 b2, vs = [x] ∧ TyX K H x t ∧ PySem.W.kitOne K t (.type "int") = some b1 ∧ (b1 = true → PySem.W.kitOne K t (.type "bool") = some b2) ∧ (b1 && !b2) = false ∧ Q (.bl false) H
def spIsRow (K : PySem.W.Frag) : Sp := fun vs H Q _ => ∃ x t b, vs = [x] ∧ TyX K H x t ∧ PySem.W.kitAny K t [.type "list", .type "tuple"] = some b ∧ ∀ H', Same H H' → Q (.bl b) H'
theorem tyof_keep {K : PySem.W.Frag} {H H' : Hp} {x : V} {t : Value} (h : TyOf K H x t) (k : Same H H') : TyOf K H' x t := by
  cases h with
  | non => exact .non
  | bl b => exact .bl b
  | int i => exact .int i
  | str z => exact .str z
  | flt z => exact .flt z
  | lst e => exact .lst (k _ _ e)
  | frz e => exact .frz (k _ _ e)
  | tup e => exact .tup (k _ _ e)
  | dK e => exact .dK (k _ _ e)
  | dT e => exact .dT (k _ _ e)
  | ins e c1 c2 c3 c4 c5 => exact .ins (k _ _ e) c1 c2 c3 c4 c5
theorem tyx_keep {K : PySem.W.Frag} {H H' : Hp} {x : V} {t : Value} (h : TyX K H x t) (k : Same H H') : TyX K H' x t := by
  cases h with
  | base b => exact .base (tyof_keep b k)
  | byt b => exact .byt b
  | set e => exact .set (k _ _ e)
  | kList e c => exact .kList e c
  | kTuple e c => exact .kTuple e c
  | kDict e c => exact .kDict e c
  | fTuple e => exact .fTuple (k _ _ e)
  | fDict e => exact .fDict (k _ _ e)
section
variable {P : Program} {w : World} {K : PySem.W.Frag} {mg : PySem.Str → Option Value} {base : Heap}
theorem ok_is_integer (T : Bt mg) {f : Addr} {fd : FuncData} (F : FunD K "is_integer" "is_integer" (defArgs s_is_integer) (defBody s_is_integer) (defScope s_is_integer) [] [] f fd) : FnOk P w K mg base CX0 1 f fd ["thing"] (spIsInt K) := by
  refine F.ok sc_is_integer (fun vs H Q E h => ?_) (fun cdv A outer s H vs Q E hr h => ?_)
  · obtain ⟨x, t, b1, b2, rfl, _⟩ := h
    rfl
  · obtain ⟨x, t, b1, b2, rfl, ty, e1, e2, q⟩ := h
    refine ⟨_, PSs.nox (pss_one (ps_ret (pe_and (pe_callB call_isi (by rfl) T.b_isinstance (by decide +kernel) (pa_cons (pv 0) (pa_cons (pe_bltn (v := .ty "int") (by rfl) T.b_int (by decide +kernel) rfl) pa_nil))) (pe_one (pe_not (pe_callB call_isi (by rfl) T.b_isinstance (by decide +kernel) (pa_cons (pv 0) (pa_cons (pe_bltn (v := .ty "bool") (by rfl) T.b_bool (by decide +kernel) rfl) pa_nil)))))))), ?_⟩
    refine ⟨_, rfl, _, _, _, _, b1, rfl, .ty _, ty, e1, b1, rfl, ?_⟩
    cases b1 with
    | false => exact iteF q
    | true => exact iteT ⟨_, rfl, _, _, _, _, b2, rfl, .ty _, ty, e2 rfl, b2, rfl, q⟩
theorem cl_is_integer (T : Bt mg) (a : At K mg "is_integer" s_is_integer) : Cl P w K mg base 1 "is_integer" (spIsInt K) [] := a.cal (ps := ["thing"]) (fun _ _ F => ok_is_integer T F) (fun _ _ _ _ _ _ us hl => match us, hl with | [_], _ => rfl)
theorem ok__law_is_integer (T : Bt mg) {f : Addr} {fd : FuncData} (F : FunD K "_law_is_integer" "_law_is_integer" (defArgs s_law_is_integer) (defBody s_law_is_integer) (defScope s_law_is_integer) [] [] f fd) : FnOk P w K mg base CX0 1 f fd ["_law_value"] (spIsInt K) := by
  refine F.ok sc_law_is_integer (fun vs H Q E h => ?_) (fun cdv A outer s H vs Q E hr h => ?_)
  · obtain ⟨x, t, b1, b2, rfl, _⟩ := h
    rfl
  · obtain ⟨x, t, b1, b2, rfl, ty, e1, e2, q⟩ := h
    refine ⟨_, PSs.nox (pss_one (ps_ret (pe_and (pe_callB call_isi (by rfl) T.b_isinstance (by decide +kernel) (pa_cons (pv 0) (pa_cons (pe_bltn (v := .ty "int") (by rfl) T.b_int (by decide +kernel) rfl) pa_nil))) (pe_one (pe_not (pe_callB call_isi (by rfl) T.b_isinstance (by decide +kernel) (pa_cons (pv 0) (pa_cons (pe_bltn (v := .ty "bool") (by rfl) T.b_bool (by decide +kernel) rfl) pa_nil)))))))), ?_⟩
    refine ⟨_, rfl, _, _, _, _, b1, rfl, .ty _, ty, e1, b1, rfl, ?_⟩
    cases b1 with
    | false => exact iteF q
    | true => exact iteT ⟨_, rfl, _, _, _, _, b2, rfl, .ty _, ty, e2 rfl, b2, rfl, q⟩
theorem cl__law_is_integer (T : Bt mg) (a : At K mg "_law_is_integer" s_law_is_integer) : Cl P w K mg base 1 "_law_is_integer" (spIsInt K) [] := a.cal (ps := ["_law_value"]) (fun _ _ F => ok__law_is_integer T F) (fun _ _ _ _ _ _ us hl => match us, hl with | [_], _ => rfl)
theorem ok_is_name (T : Bt mg) {f : Addr} {fd : FuncData} (F : FunD K "is_name" "is_name" (defArgs s_is_name) (defBody s_is_name) (defScope s_is_name) [] [] f fd) : FnOk P w K mg base CX0 1 f fd ["thing"] (spIsName K) := by
  refine F.ok sc_is_name (fun vs H Q E h => ?_) (fun cdv A outer s H vs Q E hr h => ?_)
  · rcases h with ⟨z, rfl, _⟩ | ⟨x, t, rfl, _⟩ <;> rfl
  · refine ⟨_, PSs.nox (pss_cons (ps_if (PW.pt (pw_or (pt_not (pt_val (pe_callB call_isi (by rfl) T.b_isinstance (by decide +kernel) (pa_cons (pv 0) (pa_cons (pe_bltn (v := .ty "str") (by rfl) T.b_str (by decide +kernel) rfl) pa_nil))))) (pw_or1 (pt_not (pt_chain op_le op_le pe_int (pe_callB call_len_str (by rfl) T.b_len PySem.boot_len (pa_cons (pv 0) pa_nil)) (pe_gc rfl T.c_LONGEST_NAME)))))) (pss_one (ps_ret pe_bl)) pss_nil) (pss_cons (ps_for PassesOwn.never rfl (pi_str (pv 0)) (pg_name (i := 1) sc_is_name.nd rfl (Or.inl rfl)) (pss_one (ps_if (pt_cmpR op_notIn_sign (pv 1) (pe_gc rfl T.c_LETTERS) (by rfl)) (pss_one (ps_ret pe_bl)) pss_nil))) (pss_one (ps_ret pe_bl)))), ?_⟩
    rcases h with ⟨z, rfl, lz, q⟩ | ⟨x, t, rfl, ty, e1, q⟩
    · refine ⟨_, rfl, _, _, _, _, true, rfl, .ty _, .base (.str z), kit_ty (by decide +kernel), true, rfl, iteF ?_⟩
      refine ⟨_, rfl, z, rfl, lz, _, _, rfl, rfl, _, rfl, ?_⟩
      unfold nmB at q
      by_cases h1 : 1 ≤ (z.length : Int)
      · rw [decide_eq_true h1] at q ⊢
        refine iteT ⟨_, _, rfl, rfl, _, rfl, ?_⟩
        by_cases h2 : (z.length : Int) ≤ 12
        · rw [decide_eq_true h2] at q ⊢
          refine iteF ?_
          refine ⟨_, rfl, z, rfl, for_strN (x := z) (fun i σ H' => H' = H ∧ (∃ v, σ = [some (.str z), v]) ∧ ∀ c ∈ z.cps.toList.take i, c ∈ abc.cps.toList) ?_ ?_ ?_⟩
          · exact ⟨rfl, ⟨_, rfl⟩, fun c hc => nomatch hc⟩
          · rintro i c σ H1 hc ⟨rfl, ⟨v, rfl⟩, all⟩
            refine ⟨_, rfl, c, abc, rfl, rfl, _, rfl, ?_⟩
            by_cases m : c ∈ abc.cps.toList
            · rw [decide_eq_true m]
              refine iteF ⟨rfl, ⟨_, rfl⟩, fun d hd => ?_⟩
              rw [List.take_add_one, hc] at hd
              rcases List.mem_append.mp hd with q | q
              · exact all d q
              · rw [List.mem_singleton.mp q]; exact m
            · rw [decide_eq_false m]
              refine iteT ?_
              have : (z.cps.toList.all fun c => decide (c ∈ abc.cps.toList)) = false := by
                cases e : (z.cps.toList.all fun c => decide (c ∈ abc.cps.toList)) with
                | false => rfl
                | true => exact absurd (of_decide_eq_true (List.all_eq_true.mp e c (List.mem_of_getElem? hc))) m
              rw [this] at q
              exact q
          · rintro σ H1 ⟨rfl, ⟨v, rfl⟩, all⟩
            rw [List.take_of_length_le (by simp)] at all
            have : (z.cps.toList.all fun c => decide (c ∈ abc.cps.toList)) = true := List.all_eq_true.mpr fun c hc => decide_eq_true (all c hc)
            rw [this] at q
            exact q
        · rw [decide_eq_false h2] at q ⊢
          exact iteT q
      · rw [decide_eq_false h1] at q ⊢
        exact iteF ⟨_, rfl, iteT q⟩
    · exact ⟨_, rfl, _, _, _, _, false, rfl, .ty _, ty, e1, false, rfl, iteT q⟩
theorem cl_is_name (T : Bt mg) (a : At K mg "is_name" s_is_name) : Cl P w K mg base 1 "is_name" (spIsName K) [] := a.cal (ps := ["thing"]) (fun _ _ F => ok_is_name T F) (fun _ _ _ _ _ _ us hl => match us, hl with | [_], _ => rfl)
theorem ok_is_state (T : Bt mg) (c_is_integer : Cl P w K mg base 1 "is_integer" (spIsInt K) []) {f : Addr} {fd : FuncData} (F : FunD K "is_state" "is_state" (defArgs s_is_state) (defBody s_is_state) (defScope s_is_state) [] [] f fd) : FnOk P w K mg base CX0 2 f fd ["thing"] (spIsState K) := by
  refine F.ok sc_is_state (fun vs H Q E h => ?_) (fun cdv A outer s H vs Q E hr h => ?_)
  · rcases h with ⟨i, rfl, _⟩ | ⟨x, t, b1, b2, rfl, _⟩ <;> rfl
  · refine ⟨_, PSs.nox (pss_one (ps_ret (pe_and (pe_cl c_is_integer hr (by decide) rfl (pa_cons (pv 0) pa_nil)) (pe_one (pe_chain op_le op_le pe_int (pv 0) (pe_gc rfl T.c_LAST_STATE)))))), ?_⟩
    rcases h with ⟨i, rfl, q⟩ | ⟨x, t, b1, b2, rfl, ty, e1, e2, e3, q⟩
    · refine ⟨_, rfl, ?_⟩
      refine ⟨_, _, true, false, rfl, .base (.int i), kit_ty (by decide +kernel), fun _ => kit_ty (by decide +kernel), true, rfl, iteT ?_⟩
      refine ⟨_, rfl, _, _, rfl, rfl, _, rfl, ?_⟩
      unfold stB at q
      by_cases h1 : 0 ≤ i
      · rw [decide_eq_true h1] at q ⊢
        exact iteT ⟨_, _, rfl, rfl, q⟩
      · rw [decide_eq_false h1] at q ⊢
        exact iteF q
    · refine ⟨_, rfl, x, t, b1, b2, rfl, ty, e1, e2, _, rfl, ?_⟩
      rw [e3]
      exact iteF q
theorem cl_is_state (T : Bt mg) (c_is_integer : Cl P w K mg base 1 "is_integer" (spIsInt K) []) (a : At K mg "is_state" s_is_state) : Cl P w K mg base 2 "is_state" (spIsState K) [] := a.cal (ps := ["thing"]) (fun _ _ F => ok_is_state T c_is_integer F) (fun _ _ _ _ _ _ us hl => match us, hl with | [_], _ => rfl)
theorem ok_is_row (T : Bt mg) {f : Addr} {fd : FuncData} (F : FunD K "is_row" "is_row" (defArgs s_is_row) (defBody s_is_row) (defScope s_is_row) [] [] f fd) : FnOk P w K mg base CX0 1 f fd ["thing"] (spIsRow K) := by
  refine F.ok sc_is_row (fun vs H Q E h => ?_) (fun cdv A outer s H vs Q E hr h => ?_)
  · obtain ⟨x, t, b, rfl, _⟩ := h
    rfl
  · obtain ⟨x, t, b, rfl, ty, e1, q⟩ := h
    refine ⟨_, PSs.nox (pss_one (ps_ret (pe_callB call_isiT (by rfl) T.b_isinstance (by decide +kernel) (pa_cons (pv 0) (pa_cons (pe_tup (pa_cons (pe_bltn (v := .ty "list") (by rfl) T.b_list (by decide +kernel) rfl) (pa_cons (pe_bltn (v := .ty "tuple") (by rfl) T.b_tuple (by decide +kernel) rfl) pa_nil))) pa_nil))))), ?_⟩
    refine ⟨_, rfl, (by show 2 ≤ sizeLine; decide), fun p hp => ?_⟩
    have ty' : TyX K (L2.upd H p (.tup [.ty "list", .ty "tuple"])) x t := tyx_keep ty (same_new (Same.refl _) hp)
    exact ⟨x, p, _, t, _, b, rfl, upd_same, .cons (.ty _) (.cons (.ty _) .nil), ty', e1, q _ (same_new (Same.refl _) hp)⟩
theorem cl_is_row (T : Bt mg) (a : At K mg "is_row" s_is_row) : Cl P w K mg base 1 "is_row" (spIsRow K) [] := a.cal (ps := ["thing"]) (fun _ _ F => ok_is_row T F) (fun _ _ _ _ _ _ us hl => match us, hl with | [_], _ => rfl)
end
end Lw

namespace Lw
open PySem PySem.Spec PyProof.Rows L2 Txs
open C8 (pe_gc)
/-! ### rows; small things that all parts need -/
/-- a list or a tuple, as isinstance finds it too -/
structure RowAt (K : PySem.W.Frag) (H : Hp) (a : Addr) (xs : List V) : Prop where
  sq : Sq K H a xs
  ty : ∃ t, TyX K H (.ref a) t ∧ PySem.W.kitAny K t [.type "list", .type "tuple"] = some true
theorem kit_list {K : PySem.W.Frag} : PySem.W.kitAny K (.type "list") [.type "list", .type "tuple"] = some true :=
  kitAny_cons (b := true) (kit_ty (by decide +kernel)) (fun q => nomatch q) fun _ => rfl
theorem kit_tuple {K : PySem.W.Frag} : PySem.W.kitAny K (.type "tuple") [.type "list", .type "tuple"] = some true :=
  kitAny_cons (b := false) (kit_ty (by decide +kernel)) (fun _ => kitAny_cons (b := true) (kit_ty (by decide +kernel)) (fun q => nomatch q) fun _ => rfl) fun q => nomatch q
theorem RowAt.lst {K : PySem.W.Frag} {H : Hp} {a : Addr} {xs : List V} (h : H a = some (.lst xs)) : RowAt K H a xs := ⟨.inl (SqL.of h), _, .base (.lst h), kit_list⟩
theorem RowAt.tup {K : PySem.W.Frag} {H : Hp} {a : Addr} {xs : List V} (h : H a = some (.tup xs)) : RowAt K H a xs := ⟨.inr (SqT.of h), _, .base (.tup h), kit_tuple⟩
theorem RowAt.same {K : PySem.W.Frag} {H H' : Hp} {a : Addr} {xs : List V} (h : RowAt K H a xs) (k : Same H H') : RowAt K H' a xs :=
  ⟨h.sq.same k, let ⟨t, y, e⟩ := h.ty; ⟨t, tyx_keep y k, e⟩⟩
theorem nm_len {x : PySem.Str} (h : Nm x) : x.length ≤ sizeLine := Nat.le_trans h.2.1 (by decide)
theorem putF_len (f : PySem.Str) (v : V) : ∀ fs : List (PySem.Str × V), (putF f v fs).length ≤ fs.length + 1
  | [] => Nat.le_refl _
  | q :: fs => by
    unfold putF
    split
    · simp
    · have := putF_len f v fs
      simp only [List.length_cons]
      omega
theorem sq_but {K : PySem.W.Frag} {H H' : Hp} {a p C dx : Addr} {fs : List (PySem.Str × V)} {xs : List V} (h : Sq K H a xs) (k : But p H H') (hp : H p = some (.ins C dx fs)) : Sq K H' a xs := by
  rcases h with ((h | ⟨o, h⟩) | h) | ((h | ⟨o, h⟩) | h)
  · exact .inl (.inl (.inl (k _ _ h (ne_of h hp fun z => nomatch z))))
  · exact .inl (.inl (.inr ⟨o, k _ _ h (ne_of h hp fun z => nomatch z)⟩))
  · exact .inl (.inr h)
  · exact .inr (.inl (.inl (k _ _ h (ne_of h hp fun z => nomatch z))))
  · exact .inr (.inl (.inr ⟨o, k _ _ h (ne_of h hp fun z => nomatch z)⟩))
  · exact .inr (.inr h)
theorem take_at {α : Type} {l : List α} {i : Nat} {x : α} (h : l[i]? = some x) : l.take (i + 1) = l.take i ++ [x] := by rw [List.take_add_one, h]; rfl
theorem not_before {α : Type} {l : List α} {i : Nat} {x : α} (nd : l.Nodup) (h : l[i]? = some x) : x ∉ l.take i := fun m => by
  obtain ⟨j, hj⟩ := List.mem_iff_getElem?.mp m
  rw [List.getElem?_take] at hj
  split at hj
  · have := nd_ix nd hj h
    omega
  · cases hj
theorem nodup_le {α : Type} [DecidableEq α] : ∀ {l m : List α}, l.Nodup → (∀ x ∈ l, x ∈ m) → l.length ≤ m.length
  | [], m, _, _ => Nat.zero_le _
  | a :: l, m, nd, h => by
    obtain ⟨n1, n2⟩ := List.nodup_cons.mp nd
    have am := h a List.mem_cons_self
    have ih := nodup_le (l := l) (m := m.erase a) n2 fun x hx => (List.mem_erase_of_ne fun e => n1 (by rw [← e]; exact hx)).mpr (h x (List.mem_cons_of_mem _ hx))
    have := List.length_erase_of_mem am
    have pos := List.length_pos_of_mem am
    simp only [List.length_cons]
    omega
end Lw

namespace Lw
open PySem PySem.Spec PyProof.Rows L2 Txs
open C8 (pe_gc)
/-! ### the checks of a plant, where nothing is wrong -/
def spIsStep : Sp := fun vs H Q _ => ∃ q t, vs = [.ref q] ∧ H q = some (.tup (trV t)) ∧ t.2.1.length ≤ sizeLine ∧ Q (.bl (stB t.1 && (nmB t.2.1 && stB t.2.2))) H
theorem st_ok {i : Int} (h : 0 ≤ i ∧ i ≤ 99) : stB i = true := by
  unfold stB
  rw [decide_eq_true h.1, decide_eq_true h.2]
  rfl
abbrev trK (t : Tr) : List Key := [.inl t.1, .inr t.2.1, .inl t.2.2]
theorem trK_inj {t u : Tr} (h : trK t = trK u) : t = u := by
  obtain ⟨a, b, c⟩ := t
  obtain ⟨a', b', c'⟩ := u
  simp only [trK, List.cons.injEq, Sum.inl.injEq, Sum.inr.injEq, and_true] at h
  obtain ⟨rfl, rfl, rfl⟩ := h
  rfl
def outOf (ts : List Tr) (s : Int) : Nat := (ts.filter fun t => decide (t.1 = s)).length
def spCheckSteps (K : PySem.W.Frag) : Sp := fun vs H Q _ => ∃ a as ts, vs = [.ref a] ∧ RowAt K H a (as.map V.ref) ∧ Laid H as ts ∧ Steps ts ∧ 0 < ts.length ∧ ts.length ≤ 60 ∧ ∀ H', Same H H' → Q .non H'
section
variable {P : Program} {w : World} {K : PySem.W.Frag} {mg : PySem.Str → Option Value} {base : Heap}
theorem ok_is_step (T : Bt mg) (c_is_state : Cl P w K mg base 2 "is_state" (spIsState K) []) (c_is_name : Cl P w K mg base 1 "is_name" (spIsName K) []) {f : Addr} {fd : FuncData}
    (F : FunD K "is_step" "is_step" (defArgs s_is_step) (defBody s_is_step) (defScope s_is_step) [] [] f fd) : FnOk P w K mg base CX0 3 f fd ["thing"] spIsStep := by
  refine F.ok sc_is_step (fun vs H Q E h => ?_) (fun cdv A outer s H vs Q E hr h => ?_)
  · obtain ⟨q, t, rfl, _⟩ := h
    rfl
  · obtain ⟨q, t, rfl, hq, lz, k⟩ := h
    refine ⟨_, PSs.nox (pss_cons (ps_if (PW.pt (pw_or (pt_not (pt_val (pe_callB call_isi (by rfl) T.b_isinstance (by decide +kernel) (pa_cons (pv 0) (pa_cons (pe_bltn (v := .ty "tuple") (by rfl) T.b_tuple (by decide +kernel) rfl) pa_nil))))) (pw_or1 (pt_cmpR op_ne (pe_callB call_len_seq (by rfl) T.b_len PySem.boot_len (pa_cons (pv 0) pa_nil)) pe_int (nomark _))))) (pss_one (ps_ret pe_bl)) pss_nil) (pss_one (ps_ret (pe_and (pe_cl c_is_state hr (by decide) rfl (pa_cons (pe_ix ix_tup (pv 0) pe_int (fun _ _ => rfl)) pa_nil)) (pe_and (pe_cl c_is_name hr (by decide) rfl (pa_cons (pe_ix ix_tup (pv 0) pe_int (fun _ _ => rfl)) pa_nil)) (pe_one (pe_cl c_is_state hr (by decide) rfl (pa_cons (pe_ix ix_tup (pv 0) pe_int (fun _ _ => rfl)) pa_nil)))))))), ?_⟩
    refine ⟨_, rfl, _, _, _, _, true, rfl, .ty _, .base (.tup hq), kit_ty (by decide +kernel), true, rfl, iteF ?_⟩
    refine ⟨_, rfl, q, _, rfl, .inr (SqT.of hq), rfl, _, rfl, iteF ?_⟩
    refine ⟨_, rfl, q, _, _, .int t.1, rfl, rfl, SqT.of hq, rfl, .inl ⟨t.1, rfl, _, rfl, ?_⟩⟩
    cases e1 : stB t.1 with
    | false => rw [e1] at k; exact iteF k
    | true =>
      rw [e1] at k
      refine iteT ⟨_, rfl, q, _, _, .str t.2.1, rfl, rfl, SqT.of hq, rfl, .inl ⟨t.2.1, rfl, lz, _, rfl, ?_⟩⟩
      cases e2 : nmB t.2.1 with
      | false => rw [e2] at k; exact iteF k
      | true =>
        rw [e2] at k
        exact iteT ⟨_, rfl, q, _, _, .int t.2.2, rfl, rfl, SqT.of hq, rfl, .inl ⟨t.2.2, rfl, k⟩⟩
theorem cl_is_step (T : Bt mg) (c_is_state : Cl P w K mg base 2 "is_state" (spIsState K) []) (c_is_name : Cl P w K mg base 1 "is_name" (spIsName K) []) (a : At K mg "is_step" s_is_step) : Cl P w K mg base 3 "is_step" spIsStep [] := a.cal (ps := ["thing"]) (fun _ _ F => ok_is_step T c_is_state c_is_name F) (fun _ _ _ _ _ _ us hl => match us, hl with | [_], _ => rfl)
theorem ok_check_steps (T : Bt mg) (c_is_row : Cl P w K mg base 1 "is_row" (spIsRow K) []) (c_is_step : Cl P w K mg base 3 "is_step" spIsStep []) {f : Addr} {fd : FuncData}
    (F : FunD K "check_steps" "check_steps" (defArgs s_check_steps) (defBody s_check_steps) (defScope s_check_steps) [] [] f fd) : FnOk P w K mg base CX0 4 f fd ["steps"] (spCheckSteps K) := by
  refine F.ok sc_check_steps (fun vs H Q E h => ?_) (fun cdv A outer s H vs Q E hr h => ?_)
  · obtain ⟨a, as, ts, rfl, _⟩ := h
    rfl
  · obtain ⟨a, as, ts, rfl, row, la, st, n0, n60, k⟩ := h
    have hu := hu_of hr
    refine ⟨_, PSs.nox (pss_cons (ps_if (PW.pt (pw_or (pt_not (pt_val (pe_cl c_is_row hr (by decide) rfl (pa_cons (pv 0) pa_nil)))) (pw_or1 (pt_not (pt_chain op_le op_le pe_int (pe_callB call_len_seq (by rfl) T.b_len PySem.boot_len (pa_cons (pv 0) pa_nil)) (pe_gc rfl T.c_MOST_STEPS)))))) (pss_one ps_never) pss_nil) (pss_cons (ps_set (i := 1) sc_check_steps.nd rfl (Or.inl rfl) pe_dnewT) (pss_cons (ps_set (i := 2) sc_check_steps.nd rfl (Or.inl rfl) pe_dnewK) (pss_one (ps_for PassesOwn.never rfl (pi_enumS rfl T.b_enumerate (pa_cons (pv 0) pa_nil)) (pg_tup rfl (pgs_cons (pg_name (i := 3) sc_check_steps.nd rfl (Or.inl rfl)) (pgs_cons (pg_name (i := 4) sc_check_steps.nd rfl (Or.inl rfl)) pgs_nil))) (pss_cons (ps_if (PW.pt (pw_or (pt_not (pt_val (pe_cl c_is_step hr (by decide) rfl (pa_cons (pv 4) pa_nil)))) (pw_or1 (pt_cmp (pc_din hu (pv 4) (pv 1)))))) (pss_one ps_never) pss_nil) (pss_cons (ps_dput hu (pv 1) (pv 4) pe_bl rfl) (pss_cons (ps_dput hu (pv 2) (pe_ix ix_tup (pv 4) pe_int (fun _ _ => rfl)) (pe_op op_add (pe_dget2 hu (pv 2) (pe_ix ix_tup (pv 4) pe_int (fun _ _ => rfl)) pe_int ⟨by rfl, by rfl, by rfl, by rfl⟩) pe_int) rfl) (pss_one (ps_if (pt_cmpR op_gt (pe_dget hu (pv 2) (pe_ix ix_tup (pv 4) pe_int (fun _ _ => rfl)) (fun _ _ => rfl)) (pe_gc rfl T.c_MOST_STEPS_OF_STATE) (nomark _)) (pss_one ps_never) pss_nil)))))))))), ?_⟩
    obtain ⟨t, ty, kt⟩ := row.ty
    refine ⟨_, rfl, _, t, true, rfl, ty, kt, fun H1 sm1 => ⟨true, rfl, iteF ?_⟩⟩
    have len : ((as.map V.ref).length : Int) = (ts.length : Int) := by rw [List.length_map, la.len]
    refine ⟨_, rfl, a, _, rfl, row.sq.same sm1, _, _, rfl, rfl, _, rfl, ?_⟩
    rw [len, decide_eq_true (by omega)]
    refine iteT ⟨_, _, rfl, rfl, _, rfl, ?_⟩
    rw [decide_eq_true (by omega)]
    refine iteF ?_
    intro d1 hd1 d2 hd2
    have h1a : ∀ o, H a = some o → H1 a = some o := fun o e => sm1 _ _ e
    have n12 : d1 ≠ d2 := fun q => by rw [← q, upd_same] at hd2; cases hd2
    have hd2' : H1 d2 = none := by rw [upd_ne n12.symm] at hd2; exact hd2
    have hd10 : H d1 = none := sm1.free hd1
    have hd20 : H d2 = none := sm1.free hd2'
    refine ⟨_, rfl, a, rfl, for_enum (K := K) (xs := as.map V.ref) row.sq (fun i σ H' => ∃ (e : List (List Key × V)) (l : List (Key × V)) (v3 v4 : Option V), σ = [some (.ref a), some (.ref d1), some (.ref d2), v3, v4] ∧ Same H H' ∧
      H' d1 = some (.dT e) ∧ H' d2 = some (.dK l) ∧ e.length ≤ i ∧ l.length ≤ i ∧ (∀ t, t ∉ ts.take i → valV e (trK t) = none) ∧ ∀ s : Int, valV l (.inl s) = if outOf (ts.take i) s = 0 then none else some (.int (outOf (ts.take i) s))) ?_ ?_ ?_ ?_⟩
    · exact ⟨[], [], _, _, rfl, same_put (same_put sm1 hd10) hd20, by rw [upd_ne n12]; exact upd_same, upd_same, Nat.le_refl _, Nat.le_refl _, fun _ _ => rfl, fun _ => rfl⟩
    · rintro i σ' H' _ ⟨_, _, _, _, _, sm, _⟩ o e
      exact sm _ _ e
    · rintro i x σ H2 T hx ⟨e, l, v3, v4, rfl, sm, he, hl, le, ll, hno, hcn⟩ hT
      obtain ⟨q, hq, rfl⟩ : ∃ q, as[i]? = some q ∧ x = V.ref q := by
        rw [List.getElem?_map] at hx
        cases z : as[i]? with
        | none => rw [z] at hx; cases hx
        | some q => rw [z] at hx; exact ⟨q, rfl, (Option.some.inj hx).symm⟩
      obtain ⟨t, ht, hqt⟩ := la.at' hq
      have il : i < ts.length := (List.getElem?_eq_some_iff.mp ht).1
      have tm : t ∈ ts := List.mem_of_getElem? ht
      have tk : ts.take (i + 1) = ts.take i ++ [t] := by rw [List.take_add_one, ht]; rfl
      have tn : t ∉ ts.take i := fun m => by
        obtain ⟨j, hj⟩ := List.mem_iff_getElem?.mp m
        rw [List.getElem?_take] at hj
        split at hj
        · have := nd_ix st.nd hj ht
          omega
        · cases hj
      have ok := st.ok t tm
      have q3 : H2 q = some (.tup (trV t)) := sm _ _ hqt
      have nqT : q ≠ T := ne_of_none q3 hT
      have n1T : d1 ≠ T := ne_of_none he hT
      have n2T : d2 ≠ T := ne_of_none hl hT
      refine ⟨T, _, rfl, SqT.of upd_same, rfl, _, _, rfl, _, _, rfl, rfl, ?_⟩
      have q4 : (L2.upd H2 T (.tup [.int (i : Nat), .ref q])) q = some (.tup (trV t)) := by rw [upd_ne nqT]; exact q3
      have he4 : (L2.upd H2 T (.tup [.int (i : Nat), .ref q])) d1 = some (.dT e) := by rw [upd_ne n1T]; exact he
      have hl4 : (L2.upd H2 T (.tup [.int (i : Nat), .ref q])) d2 = some (.dK l) := by rw [upd_ne n2T]; exact hl
      have sm4 : Same H (L2.upd H2 T (.tup [.int (i : Nat), .ref q])) := same_new sm hT
      generalize L2.upd H2 T (.tup [.int (i : Nat), .ref q]) = H4 at q4 he4 hl4 sm4 ⊢
      -- a good step, not met yet
      refine ⟨_, rfl, q, t, rfl, q4, nm_len ok.2.1, ?_⟩
      rw [st_ok ok.1, nmB_iff.2 ok.2.1, st_ok ok.2.2]
      refine ⟨true, rfl, iteF ?_⟩
      refine ⟨_, rfl, _, rfl, d1, _, rfl, DGet.t (k := trK t) he4 q4, _, rfl, ?_⟩
      rw [hno t tn]
      refine iteF ?_
      have nq1 : q ≠ d1 := ne_of q4 he4 fun z => nomatch z
      have nq2 : q ≠ d2 := ne_of q4 hl4 fun z => nomatch z
      refine ⟨_, rfl, _, rfl, d1, _, rfl, DPut.t (k := trK t) he4 q4 (small1000 (by omega)), ?_⟩
      have q5 : (L2.upd H4 d1 (.dT (putK e (trK t) (.bl true)))) q = some (.tup (trV t)) := by rw [upd_ne nq1]; exact q4
      have hl5 : (L2.upd H4 d1 (.dT (putK e (trK t) (.bl true)))) d2 = some (.dK l) := by rw [upd_ne n12.symm]; exact hl4
      -- one more that leaves its state
      refine ⟨_, rfl, d2, rfl, .inl ⟨l, .inl hl5⟩, _, rfl, q, _, _, .int t.1, rfl, rfl, SqT.of q5, rfl, _, DGet.k (k := .inl t.1) hl5, ?_⟩
      have hg : (valV l (Sum.inl t.1 : Key)).getD (V.int 0) = V.int (outOf (ts.take i) t.1) := by
        rw [hcn]
        split
        · rename_i z; rw [z]; rfl
        · rfl
      have one : outOf (ts.take (i + 1)) t.1 = outOf (ts.take i) t.1 + 1 := by unfold outOf; rw [tk, List.filter_append, List.length_append]; simp
      have few : outOf (ts.take (i + 1)) t.1 ≤ 8 := Nat.le_trans (by unfold outOf; exact (List.Sublist.filter _ (List.take_sublist _ _)).length_le) (st.few t.1)
      rw [hg]
      refine ⟨_, _, rfl, rfl, _, rfl, _, rfl, q, _, _, .int t.1, rfl, rfl, SqT.of q5, rfl, d2, _, rfl, DPut.k (k := .inl t.1) hl5 (small1000 (by omega)), ?_⟩
      have hl6 : (L2.upd (L2.upd H4 d1 (.dT (putK e (trK t) (.bl true)))) d2 (.dK (putK l (.inl t.1) (.int ((outOf (ts.take i) t.1 : Nat) + 1))))) d2 = some (.dK (putK l (.inl t.1) (.int ((outOf (ts.take i) t.1 : Nat) + 1)))) := upd_same
      have q6 : (L2.upd (L2.upd H4 d1 (.dT (putK e (trK t) (.bl true)))) d2 (.dK (putK l (.inl t.1) (.int ((outOf (ts.take i) t.1 : Nat) + 1))))) q = some (.tup (trV t)) := by rw [upd_ne nq2]; exact q5
      refine ⟨_, rfl, _, rfl, q, _, _, .int t.1, rfl, rfl, SqT.of q6, rfl, d2, .int ((outOf (ts.take i) t.1 : Nat) + 1), rfl, ?_, _, _, rfl, rfl, _, rfl, ?_⟩
      · have := DGet.k (k := .inl t.1) hl6
        rw [valV_put, if_pos rfl] at this
        exact this
      · rw [decide_eq_false (by omega)]
        refine iteF ⟨_, _, _, _, rfl, same_put (same_put sm4 hd10) hd20, by rw [upd_ne n12]; exact upd_same, upd_same, Nat.le_trans (length_putK _ _ _) (Nat.succ_le_succ le), Nat.le_trans (length_putK _ _ _) (Nat.succ_le_succ ll), fun u hu => ?_, fun s' => ?_⟩
        · rw [tk] at hu
          have hu := not_or.mp (fun z => hu (List.mem_append.mpr z))
          rw [valV_put, if_neg fun z => hu.2 (List.mem_singleton.mpr (trK_inj z)), hno u hu.1]
        · rw [valV_put]
          by_cases e1 : (Sum.inl s' : Key) = Sum.inl t.1
          · have e2 : s' = t.1 := Sum.inl.inj e1
            rw [if_pos e1, e2, one, if_neg (Nat.succ_ne_zero _)]
            rfl
          · have e2 : ¬ t.1 = s' := fun z => e1 (by rw [z])
            rw [if_neg e1, hcn s', show outOf (ts.take (i + 1)) s' = outOf (ts.take i) s' by unfold outOf; rw [tk, List.filter_append, List.length_append]; simp [e2]]
    · rintro σ H2 ⟨e, l, v3, v4, rfl, sm, _⟩
      exact k H2 sm
theorem cl_check_steps (T : Bt mg) (c_is_row : Cl P w K mg base 1 "is_row" (spIsRow K) []) (c_is_step : Cl P w K mg base 3 "is_step" spIsStep []) (a : At K mg "check_steps" s_check_steps) : Cl P w K mg base 4 "check_steps" (spCheckSteps K) [] := a.cal (ps := ["steps"]) (fun _ _ F => ok_check_steps T c_is_row c_is_step F) (fun _ _ _ _ _ _ us hl => match us, hl with | [_], _ => rfl)
end
end Lw

namespace Lw
open PySem PySem.Spec PyProof.Rows L2 Txs
open C8 (pe_gc)
/-! ### words, marks, states -/
theorem inV_ints (n : Int) (ms : List Int) : inV (.int n) (ms.map V.int) = decide (n ∈ ms) := by
  unfold inV
  rw [List.any_map]
  by_cases h : n ∈ ms
  · rw [decide_eq_true h]
    exact List.any_eq_true.mpr ⟨n, h, by show (n == n) = true; simp⟩
  · rw [decide_eq_false h]
    refine List.any_eq_false.mpr fun m hm q => h ?_
    have q : (m == n) = true := q
    rw [← beq_iff_eq.mp q]; exact hm
theorem all_flat_ints (ns : List Int) : (ns.map V.int).all flatV = true := by
  rw [List.all_map, List.all_eq_true]
  intro _ _
  rfl
theorem ref_at {as : List Addr} {i : Nat} {x : V} (h : (as.map V.ref)[i]? = some x) : ∃ q, as[i]? = some q ∧ x = V.ref q := by
  rw [List.getElem?_map] at h
  cases z : as[i]? with
  | none => rw [z] at h; cases h
  | some q => rw [z] at h; exact ⟨q, rfl, (Option.some.inj h).symm⟩
theorem int_at' {ns : List Int} {i : Nat} {x : V} (h : (ns.map V.int)[i]? = some x) : ∃ q, ns[i]? = some q ∧ x = V.int q := by
  rw [List.getElem?_map] at h
  cases z : ns[i]? with
  | none => rw [z] at h; cases h
  | some q => rw [z] at h; exact ⟨q, rfl, (Option.some.inj h).symm⟩
def Words (ts : List Tr) (ys : List PySem.Str) : Prop := Asc ys ∧ ∀ x, x ∈ ys ↔ x ∈ ts.map (·.2.1)
theorem Words.one {ts : List Tr} {ys zs : List PySem.Str} (h : Words ts ys) (g : Words ts zs) : ys = zs := h.1.one g.1 fun x => (h.2 x).trans (g.2 x).symm
def spWordsOf (K : PySem.W.Frag) : Sp := fun vs H Q _ => ∃ a as ts, vs = [.ref a] ∧ Sq K H a (as.map V.ref) ∧ Laid H as ts ∧ ts.length < 64 ∧
  ∀ ys p H', Words ts ys → ys.length ≤ ts.length → Same H H' → H p = none → H' p = some (.lst (ys.map V.str)) → Q (.ref p) H'
def spCheckMarks (K : PySem.W.Frag) : Sp := fun vs H Q _ => ∃ (a b : Addr) (ns ms : List Int), vs = [.ref a, .ref b] ∧ RowAt K H a (ns.map V.int) ∧ SqL K H b (ms.map V.int) ∧ ns.Nodup ∧ (∀ n ∈ ns, n ∈ ms) ∧ ns.length ≤ 100 ∧ ∀ H', Same H H' → Q .non H'
def spWithout (K : PySem.W.Frag) : Sp := fun vs H Q _ => ∃ (a b : Addr) (ns gs : List Int), vs = [.ref a, .ref b] ∧ SqL K H a (ns.map V.int) ∧ Sq K H b (gs.map V.int) ∧ ns.length ≤ 100 ∧
  ∀ p H', Same H H' → H p = none → H' p = some (.lst ((ns.filter fun x => decide (x ∉ gs)).map V.int)) → Q (.ref p) H'
section
variable {P : Program} {w : World} {K : PySem.W.Frag} {mg : PySem.Str → Option Value} {base : Heap}
theorem ok_words_of (T : Bt mg) {f : Addr} {fd : FuncData} (F : FunD K "words_of" "words_of" (defArgs s_words_of) (defBody s_words_of) (defScope s_words_of) [] [] f fd) : FnOk P w K mg base CX0 1 f fd ["steps"] (spWordsOf K) := by
  refine F.ok sc_words_of (fun vs H Q E h => ?_) (fun cdv A outer s H vs Q E hr h => ?_)
  · obtain ⟨a, as, ts, rfl, _⟩ := h
    rfl
  · obtain ⟨a, as, ts, rfl, row, la, n64, k⟩ := h
    refine ⟨_, PSs.nox (pss_one (ps_ret (pe_callB (cr_sortedX rfl) (by rfl) T.b_sorted (by decide +kernel) (pa_cons (pe_scX (own := [("step", 1)]) (tt := tYes) rfl sc_words_of.nd (pi_seq (pv 0)) (blkOk_by (N := N_words_of) (sc := defScope s_words_of) (by decide +kernel)) (fun _ _ _ _ _ => (pg_name (i := 1) sc_words_of.nd rfl (Or.inl rfl))) (fun _ _ _ _ _ => pts_nil) (fun _ _ _ _ _ => (pe_ix (ixT K) (pv 1) pe_int (fun _ _ => rfl)))) pa_nil)))), ?_⟩
    refine ⟨_, rfl, a, rfl, sc_seq (P := P) (w := w) row (fun o e => e) (fun D i H' => Same H H' ∧ ∃ S n, H' D = some (SetX P w D S n) ∧ n ≤ i ∧ ∀ x, S x = true ↔ x ∈ (ts.take i).map (·.2.1)) ?_ ?_ ?_ ?_⟩
    · exact fun D hD => ⟨same_new (Same.refl _) hD, _, 0, upd_same, Nat.le_refl _, fun x => by simp⟩
    · exact fun D i H' _ _ ⟨sm, _⟩ o e => sm _ _ e
    · rintro D i x H1 hD hx ⟨sm, S, n, hS, hn, hm⟩
      obtain ⟨q, hq, rfl⟩ := ref_at hx
      obtain ⟨t, ht, hqt⟩ := la.at' hq
      have il : i < ts.length := (List.getElem?_eq_some_iff.mp ht).1
      refine ⟨rfl, _, rfl, q, _, _, .str t.2.1, rfl, rfl, SqT.of (sm _ _ hqt), rfl, t.2.1, S, n, rfl, hS, by unfold scanBound; omega, same_put sm hD, _, _, upd_same, by split <;> omega, fun x => ?_⟩
      rw [take_at ht, List.map_append, List.mem_append, Bool.or_eq_true, hm x, decide_eq_true_eq, List.map_singleton, List.mem_singleton]
    · rintro D H1 hD ⟨sm, S, n, hS, hn, hm⟩
      rw [List.length_map, la.len] at hn
      rw [List.length_map, la.len, List.take_length] at hm
      refine ⟨D, S, n, rfl, hS, by omega, fun ys p asc mem len hp => ?_⟩
      exact k ys p _ ⟨asc, fun x => (mem x).trans (hm x)⟩ (by omega) (same_new sm hp) (sm.free hp) upd_same
theorem cl_words_of (T : Bt mg) (a : At K mg "words_of" s_words_of) : Cl P w K mg base 1 "words_of" (spWordsOf K) [] := a.cal (ps := ["steps"]) (fun _ _ F => ok_words_of T F) (fun _ _ _ _ _ _ us hl => match us, hl with | [_], _ => rfl)
theorem ok_check_marks (T : Bt mg) (c_is_row : Cl P w K mg base 1 "is_row" (spIsRow K) []) (c_is_integer : Cl P w K mg base 1 "is_integer" (spIsInt K) []) {f : Addr} {fd : FuncData}
    (F : FunD K "check_marks" "check_marks" (defArgs s_check_marks) (defBody s_check_marks) (defScope s_check_marks) [] [] f fd) : FnOk P w K mg base CX0 2 f fd ["numbers", "allowed"] (spCheckMarks K) := by
  refine F.ok sc_check_marks (fun vs H Q E h => ?_) (fun cdv A outer s H vs Q E hr h => ?_)
  · obtain ⟨a, b, ns, ms, rfl, _⟩ := h
    rfl
  · obtain ⟨a, b, ns, ms, rfl, row, hb, nd, sub, n100, k⟩ := h
    have hu := hu_of hr
    refine ⟨_, PSs.nox (pss_cons (ps_if (pt_not (pt_val (pe_cl c_is_row hr (by decide) rfl (pa_cons (pv 0) pa_nil)))) (pss_one ps_never) pss_nil) (pss_cons (ps_set (i := 2) sc_check_marks.nd rfl (Or.inl rfl) pe_dnewK) (pss_one (ps_for PassesOwn.never rfl (pi_seq (pv 0)) (pg_name (i := 3) sc_check_marks.nd rfl (Or.inl rfl)) (pss_cons (ps_if (PW.pt (pw_or (pt_not (pt_val (pe_cl c_is_integer hr (by decide) rfl (pa_cons (pv 3) pa_nil)))) (pw_or (pt_cmpR op_notIn_seq (pv 3) (pv 1) (by rfl)) (pw_or1 (pt_cmp (pc_din hu (pv 3) (pv 2))))))) (pss_one ps_never) pss_nil) (pss_one (ps_dput hu (pv 2) (pv 3) pe_bl rfl))))))), ?_⟩
    obtain ⟨t, ty, kt⟩ := row.ty
    refine ⟨_, rfl, _, t, true, rfl, ty, kt, fun H1 sm1 => ⟨true, rfl, iteF ?_⟩⟩
    intro d hd
    have hd0 : H d = none := sm1.free hd
    refine ⟨_, rfl, a, rfl, for_seq (K := K) (xs := ns.map V.int) row.sq (fun i σ H' => ∃ (l : List (Key × V)) (v3 : Option V), σ = [some (.ref a), some (.ref b), some (.ref d), v3] ∧ Same H H' ∧ H' d = some (.dK l) ∧ l.length ≤ i ∧ ∀ n, n ∉ ns.take i → valV l (.inl n) = none) ?_ ?_ ?_ ?_⟩
    · exact ⟨[], _, rfl, same_put sm1 hd0, upd_same, Nat.le_refl _, fun _ _ => rfl⟩
    · rintro i σ' H' _ ⟨_, _, _, sm, _⟩ o e
      exact sm _ _ e
    · rintro i x σ H2 hx ⟨l, v3, rfl, sm, hl, ll, hno⟩
      obtain ⟨n, hn, rfl⟩ := int_at' hx
      have il : i < ns.length := (List.getElem?_eq_some_iff.mp hn).1
      refine ⟨_, rfl, _, _, true, false, rfl, .base (.int n), kit_ty (by decide +kernel), fun _ => kit_ty (by decide +kernel), true, rfl, iteF ?_⟩
      refine ⟨_, rfl, _, rfl, b, _, rfl, .inl (sqL_keep hb fun o e => sm _ _ e), rfl, all_flat_ints ms, _, rfl, ?_⟩
      rw [inV_ints, decide_eq_true (sub n (List.mem_of_getElem? hn))]
      refine iteF ⟨_, rfl, _, rfl, d, _, rfl, DGet.k (k := .inl n) hl, _, rfl, ?_⟩
      rw [hno n (not_before nd hn)]
      refine iteF ⟨_, rfl, _, rfl, d, _, rfl, DPut.k (k := .inl n) hl (small1000 (by omega)), _, _, rfl, same_put sm hd0, upd_same, Nat.le_trans (length_putK _ _ _) (Nat.succ_le_succ ll), fun m hm => ?_⟩
      rw [take_at hn] at hm
      have hm := not_or.mp (fun z => hm (List.mem_append.mpr z))
      rw [valV_put, if_neg fun z => hm.2 (List.mem_singleton.mpr (Sum.inl.inj z)), hno m hm.1]
    · rintro σ H2 ⟨l, v3, rfl, sm, _⟩
      exact k H2 sm
theorem cl_check_marks (T : Bt mg) (c_is_row : Cl P w K mg base 1 "is_row" (spIsRow K) []) (c_is_integer : Cl P w K mg base 1 "is_integer" (spIsInt K) []) (a : At K mg "check_marks" s_check_marks) : Cl P w K mg base 2 "check_marks" (spCheckMarks K) [] := a.cal (ps := ["numbers", "allowed"]) (fun _ _ F => ok_check_marks T c_is_row c_is_integer F) (fun _ _ _ _ _ _ us hl => match us, hl with | [_, _], _ => rfl)
theorem ok_without (T : Bt mg) {f : Addr} {fd : FuncData} (F : FunD K "without" "without" (defArgs s_without) (defBody s_without) (defScope s_without) [] [] f fd) : FnOk P w K mg base CX0 1 f fd ["numbers", "gone"] (spWithout K) := by
  refine F.ok sc_without (fun vs H Q E h => ?_) (fun cdv A outer s H vs Q E hr h => ?_)
  · obtain ⟨a, b, ns, gs, rfl, _⟩ := h
    rfl
  · obtain ⟨a, b, ns, gs, rfl, ha, hb, n100, k⟩ := h
    refine ⟨_, PSs.nox (pss_one (ps_ret (pe_lc (own := [("number", 2)]) rfl sc_without.nd (pi_list (pv 0)) (blkOk_by (N := N_without) (sc := defScope s_without) (by decide +kernel)) (fun _ _ _ _ _ => (pg_name (i := 2) sc_without.nd rfl (Or.inl rfl))) (fun _ _ _ _ _ => (pts_one (pt_cmpR (opNotIn K) (pv 2) (pv 1) (by rfl)))) (fun _ _ _ _ _ => (pv 2))))), ?_⟩
    refine ⟨_, rfl, a, rfl, ⟨_, ha⟩, fun D hD => lc_list (K := K) (xs := ns.map V.int) (fun i H' => Same H H' ∧ H' D = some (.lst (((ns.take i).filter fun x => decide (x ∉ gs)).map V.int))) ?_ ?_ ?_ ?_⟩
    · exact ⟨same_new (Same.refl _) hD, upd_same⟩
    · exact fun i H' _ ⟨sm, _⟩ => sm.seq ha
    · rintro i x H1 hx ⟨sm, hl⟩
      obtain ⟨n, hn, rfl⟩ := int_at' hx
      have il : i < ns.length := (List.getElem?_eq_some_iff.mp hn).1
      refine ⟨rfl, _, rfl, _, rfl, b, _, rfl, hb.same sm, rfl, all_flat_ints gs, _, rfl, ?_⟩
      rw [inV_ints]
      by_cases m : n ∈ gs
      · rw [decide_eq_true m]
        refine iteF ⟨sm, ?_⟩
        rw [take_at hn, List.filter_append]
        simpa [m] using hl
      · rw [decide_eq_false m]
        refine iteT ⟨_, rfl, _, hl, ?_, same_put sm hD, ?_⟩
        · rw [List.length_map]
          have := List.length_filter_le (fun x => decide (x ∉ gs)) (ns.take i)
          rw [List.length_take] at this
          exact small1000 (by omega)
        · rw [upd_same, take_at hn, List.filter_append, List.map_append]
          simp [m]
    · rintro H1 ⟨sm, hl⟩
      rw [List.length_map, List.take_length] at hl
      exact k D H1 sm hD hl
theorem cl_without (T : Bt mg) (a : At K mg "without" s_without) : Cl P w K mg base 1 "without" (spWithout K) [] := a.cal (ps := ["numbers", "gone"]) (fun _ _ F => ok_without T F) (fun _ _ _ _ _ _ us hl => match us, hl with | [_, _], _ => rfl)
end
end Lw

namespace Lw
open PySem PySem.Spec PyProof.Rows L2 Txs
open C8 (pe_gc)
/-! ### the states that are reached: what both searches do -/
def reachOne (s : Int) (f : List Int) (t : Tr) : List Int := if t.1 = s ∧ t.2.2 ∉ f then f ++ [t.2.2] else f
def reachTurn (ts : List Tr) (s : Int) (f : List Int) : List Int := ts.foldl (reachOne s) f
inductive Rch (ts : List Tr) : Nat → List Int → List Int → Prop
  | stop {n : Nat} {f : List Int} (h : f[n]? = none) : Rch ts n f f
  | turn {n : Nat} {f r : List Int} {s : Int} (h : f[n]? = some s) (k : Rch ts (n + 1) (reachTurn ts s f) r) : Rch ts n f r
theorem Rch.one {ts : List Tr} {n : Nat} {f r q : List Int} (h : Rch ts n f r) (g : Rch ts n f q) : r = q := by
  induction h with
  | stop e => cases g with
    | stop _ => rfl
    | turn e' _ => rw [e] at e'; cases e'
  | turn e _ ih => cases g with
    | stop e' => rw [e] at e'; cases e'
    | turn e' k' => rw [e] at e'; cases e'; exact ih k'
structure Fnd (ts : List Tr) (s0 : Int) (f : List Int) : Prop where
  nd : f.Nodup
  sub : ∀ x ∈ f, x ∈ s0 :: ts.map (·.2.2)
theorem Fnd.len {ts : List Tr} {s0 : Int} {f : List Int} (h : Fnd ts s0 f) : f.length ≤ ts.length + 1 := by
  have := nodup_le h.nd h.sub
  simpa using this
theorem Fnd.one {ts : List Tr} {s0 s : Int} {f : List Int} {t : Tr} (h : Fnd ts s0 f) (m : t ∈ ts) : Fnd ts s0 (reachOne s f t) := by
  unfold reachOne
  split
  · rename_i c
    refine ⟨nd_snoc h.nd c.2, fun x hx => ?_⟩
    rcases List.mem_append.mp hx with q | q
    · exact h.sub x q
    · rw [List.mem_singleton.mp q]
      exact List.mem_cons_of_mem _ (List.mem_map.mpr ⟨t, m, rfl⟩)
  · exact h
theorem one_keeps {s : Int} {f : List Int} {t : Tr} {n : Nat} {x : Int} (h : f[n]? = some x) : (reachOne s f t)[n]? = some x := by
  unfold reachOne
  split
  · rw [List.getElem?_append_left (List.getElem?_eq_some_iff.mp h).1]; exact h
  · exact h
end Lw

namespace Lw
open PySem PySem.Spec PyProof.Rows L2 Txs
open C8 (pe_gc)
/-! ### the states that are reached, whatever way they are searched -/
inductive Reach (ts : List Tr) (ss : List Int) : Int → Prop
  | start {x : Int} (h : x ∈ ss) : Reach ts ss x
  | step {t : Tr} (h : Reach ts ss t.1) (m : t ∈ ts) : Reach ts ss t.2.2
theorem Reach.sub {ts : List Tr} {ss : List Int} {P : Int → Prop} (h0 : ∀ x ∈ ss, P x) (h1 : ∀ t ∈ ts, P t.1 → P t.2.2) {x : Int} (h : Reach ts ss x) : P x := by
  induction h with
  | start h => exact h0 _ h
  | step _ m ih => exact h1 _ m ih
def States (ts : List Tr) (ss ys : List Int) : Prop := ys.Pairwise (· < ·) ∧ ∀ x, x ∈ ys ↔ Reach ts ss x
theorem lt_nd {l : List Int} (h : l.Pairwise (· < ·)) : l.Nodup := h.imp fun h => Int.ne_of_lt h
theorem lt_of_nd {l : List Int} (h : l.Pairwise (· ≤ ·)) (n : l.Nodup) : l.Pairwise (· < ·) := (h.and n).imp fun ⟨a, b⟩ => Int.lt_iff_le_and_ne.2 ⟨a, b⟩
theorem States.one {ts : List Tr} {ss ys zs : List Int} (h : States ts ss ys) (g : States ts ss zs) : ys = zs :=
  asc_perm (h.1.imp fun h => Int.le_of_lt h) (g.1.imp fun h => Int.le_of_lt h) ((List.perm_ext_iff_of_nodup (lt_nd h.1) (lt_nd g.1)).2 fun x => (h.2 x).trans (g.2 x).symm)
theorem States.le {ts : List Tr} {s : Int} {ys : List Int} (h : States ts [s] ys) : ys.length ≤ ts.length + 1 := by
  have : ∀ x ∈ ys, x ∈ s :: ts.map (·.2.2) := fun x hx => Reach.sub (P := fun x => x ∈ s :: ts.map (·.2.2)) (fun x hx => by rw [List.mem_singleton.mp hx]; exact List.mem_cons_self) (fun t m _ => List.mem_cons_of_mem _ (List.mem_map.mpr ⟨t, m, rfl⟩)) ((h.2 x).1 hx)
  have := nodup_le (lt_nd h.1) this
  simpa using this
def outs (ts : List Tr) (s : Int) : List Int := (ts.filter fun t => decide (t.1 = s)).map (·.2.2)
theorem mem_outs {ts : List Tr} {s x : Int} : x ∈ outs ts s ↔ ∃ t ∈ ts, t.1 = s ∧ t.2.2 = x := by
  unfold outs
  rw [List.mem_map]
  constructor
  · rintro ⟨t, ht, rfl⟩
    obtain ⟨m, e⟩ := List.mem_filter.mp ht
    exact ⟨t, m, of_decide_eq_true e, rfl⟩
  · rintro ⟨t, m, e, rfl⟩
    exact ⟨t, List.mem_filter.mpr ⟨m, decide_eq_true e⟩, rfl⟩
theorem outs_snoc (us : List Tr) (t : Tr) (s : Int) : outs (us ++ [t]) s = if t.1 = s then outs us s ++ [t.2.2] else outs us s := by
  unfold outs
  rw [List.filter_append, List.map_append]
  by_cases e : t.1 = s
  · rw [if_pos e]
    simp [e]
  · rw [if_neg e]
    simp [e]
theorem outs_len (us : List Tr) (s : Int) : (outs us s).length ≤ us.length := by
  unfold outs
  rw [List.length_map]
  exact (List.filter_sublist).length_le
/-- the list that grows as it is walked: what one turn does -/
theorem turn_spec (s : Int) : ∀ (us : List Tr) (f : List Int), (∀ (i : Nat) (x : Int), f[i]? = some x → (us.foldl (reachOne s) f)[i]? = some x) ∧ (f.Nodup → (us.foldl (reachOne s) f).Nodup) ∧
    (∀ x ∈ us.foldl (reachOne s) f, x ∈ f ∨ ∃ t ∈ us, t.1 = s ∧ t.2.2 = x) ∧ (∀ t ∈ us, t.1 = s → t.2.2 ∈ us.foldl (reachOne s) f)
  | [], f => ⟨fun _ _ h => h, fun h => h, fun x h => .inl h, fun t h => nomatch h⟩
  | t :: us, f => by
    obtain ⟨a, b, c, d⟩ := turn_spec s us (reachOne s f t)
    have mono : ∀ x, x ∈ reachOne s f t → x ∈ us.foldl (reachOne s) (reachOne s f t) := fun x hx => by
      obtain ⟨i, hi⟩ := List.mem_iff_getElem?.mp hx
      exact List.mem_of_getElem? (a i x hi)
    refine ⟨fun i x h => a i x (one_keeps h), fun h => b ?_, fun x h => ?_, fun u hu e => ?_⟩
    · unfold reachOne
      split
      · rename_i z
        exact nd_snoc h z.2
      · exact h
    · rcases c x h with q | ⟨u, m, e, q⟩
      · unfold reachOne at q
        split at q
        · rename_i z
          rcases List.mem_append.mp q with q | q
          · exact .inl q
          · exact .inr ⟨t, List.mem_cons_self, z.1, (List.mem_singleton.mp q).symm⟩
        · exact .inl q
      · exact .inr ⟨u, List.mem_cons_of_mem _ m, e, q⟩
    · rcases List.mem_cons.mp hu with q | q
      · subst q
        refine mono _ ?_
        unfold reachOne
        by_cases m : u.2.2 ∈ f
        · rw [if_neg fun z => z.2 m]; exact m
        · rw [if_pos ⟨e, m⟩]; simp
      · exact d u q e
theorem Rch.done {ts : List Tr} {s0 : Int} {n : Nat} {f r : List Int} (h : Rch ts n f r) (nd : f.Nodup) (rc : ∀ x ∈ f, Reach ts [s0] x) (s0m : s0 ∈ f) (cl : ∀ (i : Nat) (x : Int), i < n → f[i]? = some x → ∀ t ∈ ts, t.1 = x → t.2.2 ∈ f) :
    r.Nodup ∧ ∀ x, x ∈ r ↔ Reach ts [s0] x := by
  induction h with
  | @stop n f e =>
    refine ⟨nd, fun x => ⟨rc x, fun h => Reach.sub (P := fun x => x ∈ f) (fun x hx => by rw [List.mem_singleton.mp hx]; exact s0m) (fun t m hx => ?_) h⟩⟩
    obtain ⟨i, hi⟩ := List.mem_iff_getElem?.mp hx
    have il : i < n := by
      have := (List.getElem?_eq_some_iff.mp hi).1
      have := List.getElem?_eq_none_iff.mp e
      omega
    exact cl i _ il hi t m rfl
  | @turn n f r s e k ih =>
    obtain ⟨a, b, c, d⟩ := turn_spec s ts f
    have rs := rc s (List.mem_of_getElem? e)
    have mono : ∀ x ∈ f, x ∈ reachTurn ts s f := fun x hx => by
      obtain ⟨i, hi⟩ := List.mem_iff_getElem?.mp hx
      exact List.mem_of_getElem? (a i x hi)
    refine ih (b nd) (fun x hx => ?_) (mono _ s0m) (fun i x il hi t m et => ?_)
    · rcases c x hx with q | ⟨t, m, e1, e2⟩
      · exact rc x q
      · rw [← e2]
        exact .step (by rw [e1]; exact rs) m
    · by_cases q : i = n
      · subst q
        have := a _ _ e
        rw [show (ts.foldl (reachOne s) f)[i]? = (reachTurn ts s f)[i]? from rfl, hi] at this
        cases this
        exact d t m et
      · have hn : i < f.length := by
          have := (List.getElem?_eq_some_iff.mp e).1
          omega
        have h1 : f[i]? = some f[i] := List.getElem?_eq_getElem hn
        have := a _ _ h1
        rw [show (ts.foldl (reachOne s) f)[i]? = (reachTurn ts s f)[i]? from rfl, hi] at this
        cases this
        exact mono _ (cl i _ (by omega) h1 t m et)
/-! what a dict of lists says of the steps -/
def tgD (ls : List (Int × Addr)) : List (Key × V) := ls.map fun e => (.inl e.1, .ref e.2)
structure Tgt (H : Hp) (ts : List Tr) (ls : List (Int × Addr)) : Prop where
  nd : (ls.map (·.1)).Nodup
  na : (ls.map (·.2)).Nodup
  at_ : ∀ e ∈ ls, H e.2 = some (.lst ((outs ts e.1).map V.int))
  all : ∀ s, s ∉ ls.map (·.1) → outs ts s = []
theorem inl_eq {x y : Int} : ((.inl x : Key) = .inl y) = (x = y) := propext ⟨fun h => by injection h, fun h => by rw [h]⟩
theorem tg_some {ls : List (Int × Addr)} {x : Int} {v : V} (h : valV (tgD ls) (.inl x) = some v) : ∃ y, v = .ref y ∧ (x, y) ∈ ls := by
  induction ls with
  | nil => cases h
  | cons e ls ih =>
    change valV (((.inl e.1 : Key), V.ref e.2) :: tgD ls) (.inl x) = _ at h
    by_cases q : (.inl e.1 : Key) = .inl x
    · rw [valV_pos q] at h
      have q : e.1 = x := by simpa [inl_eq] using q
      exact ⟨e.2, (Option.some.inj h).symm, by rw [← q]; exact List.mem_cons_self⟩
    · rw [valV_neg q] at h
      obtain ⟨y, e1, e2⟩ := ih h
      exact ⟨y, e1, List.mem_cons_of_mem _ e2⟩
theorem tg_none {ls : List (Int × Addr)} {x : Int} (h : valV (tgD ls) (.inl x : Key) = none) : x ∉ ls.map (·.1) := fun m => by
  induction ls with
  | nil => cases m
  | cons e ls ih =>
    change valV (((.inl e.1 : Key), V.ref e.2) :: tgD ls) (.inl x) = _ at h
    by_cases q : (.inl e.1 : Key) = .inl x
    · rw [valV_pos q] at h; cases h
    · rw [valV_neg q] at h
      rcases List.mem_cons.mp m with z | z
      · exact q (by rw [z])
      · exact ih h z
theorem nd_fst {α β : Type} [DecidableEq α] : ∀ {ls : List (α × β)}, (ls.map (·.1)).Nodup → ∀ {x : α} {y z : β}, (x, y) ∈ ls → (x, z) ∈ ls → y = z
  | [], _, _, _, _, h, _ => nomatch h
  | e :: ls, nd, x, y, z, h, g => by
    simp only [List.map_cons, List.nodup_cons] at nd
    rcases List.mem_cons.mp h with p | p <;> rcases List.mem_cons.mp g with q | q
    · rw [← p] at q; cases q; rfl
    · exact absurd (List.mem_map.mpr ⟨_, q, by rw [← p]⟩) nd.1
    · exact absurd (List.mem_map.mpr ⟨_, p, by rw [← q]⟩) nd.1
    · exact nd_fst nd.2 p q
theorem nd_snd {α β : Type} [DecidableEq β] : ∀ {ls : List (α × β)}, (ls.map (·.2)).Nodup → ∀ {x z : α} {y : β}, (x, y) ∈ ls → (z, y) ∈ ls → x = z
  | [], _, _, _, _, h, _ => nomatch h
  | e :: ls, nd, x, z, y, h, g => by
    simp only [List.map_cons, List.nodup_cons] at nd
    rcases List.mem_cons.mp h with p | p <;> rcases List.mem_cons.mp g with q | q
    · rw [← p] at q; cases q; rfl
    · exact absurd (List.mem_map.mpr ⟨_, q, by rw [← p]⟩) nd.1
    · exact absurd (List.mem_map.mpr ⟨_, p, by rw [← q]⟩) nd.1
    · exact nd_snd nd.2 p q
def rdK (R : List Int) : List (Key × V) := R.map fun z => (.inl z, .bl true)
theorem rd_keys (R : List Int) : (rdK R).map (·.1) = R.map Sum.inl := by
  unfold rdK
  rw [List.map_map]
  rfl
theorem rd_list (R : List Int) : (rdK R).map (fun kv => kV kv.1) = R.map V.int := by
  unfold rdK
  rw [List.map_map]
  rfl
theorem rd_val (R : List Int) (z : Int) : valV (rdK R) (.inl z : Key) = if z ∈ R then some (.bl true) else none := by
  induction R with
  | nil => rfl
  | cons x R ih =>
    show valV (((.inl x : Key), V.bl true) :: rdK R) (.inl z) = _
    by_cases q : (.inl x : Key) = .inl z
    · have q' : x = z := by simpa [inl_eq] using q
      rw [valV_pos q, if_pos (by rw [q']; exact List.mem_cons_self)]
    · have q' : ¬ x = z := by simpa [inl_eq] using q
      rw [valV_neg q, ih]
      by_cases m : z ∈ R
      · rw [if_pos m, if_pos (List.mem_cons_of_mem _ m)]
      · rw [if_neg m, if_neg fun z => (List.mem_cons.mp z).elim (fun e => q' e.symm) m]
theorem rd_put {R : List Int} {z : Int} (h : z ∉ R) : putK (rdK R) (.inl z : Key) (.bl true) = rdK (R ++ [z]) := by
  rw [putK_new _ (by rw [rd_val, if_neg h])]
  unfold rdK
  rw [List.map_append]
  rfl
theorem rd_again {R : List Int} {z : Int} (h : z ∈ R) : putK (rdK R) (.inl z : Key) (.bl true) = rdK R := by
  have a : ((rdK R).any fun kv => decide (kv.1 = (.inl z : Key))) = true := by rw [valV_any, rd_val, if_pos h]; rfl
  unfold putK
  rw [if_pos a]
  unfold rdK
  rw [List.map_map]
  refine List.map_congr_left fun x _ => ?_
  show (if (.inl x : Key) = .inl z then ((.inl x : Key), V.bl true) else ((.inl x : Key), V.bl true)) = ((.inl x : Key), V.bl true)
  split <;> rfl
/-- one turn of a dict comprehension: its item x bound, the tests, the key and the value, and what must hold of the dict with them in it -/
abbrev DTurn (g : TG) (tt : TT) (tk tv : TE) (vs : List Nat) (σ : L2.St) (D : Addr) (Nx : Hp → Prop) (x : V) (H : Hp) : Prop :=
  g x (wipe σ vs) H fun s2 H2 => wipe s2 vs = wipe σ vs ∧ tt s2 H2 fun b H3 => if b = true then tk s2 H3 fun y H4 => tv s2 H4 fun z H5 => ∃ kvs k, y = kV k ∧ H5 D = some (.dK kvs) ∧ kvs.length < sizeLine ∧ Nx (upd H5 D (.dK (putK kvs k z))) else Nx H3
/-- a dict comprehension over a list that stays -/
theorem dc_list {K : PySem.W.Frag} {a : Addr} {xs : List V} {g : TG} {tt : TT} {tk tv : TE} {vs : List Nat} {σ : L2.St} {H1 : Hp} {D : Addr} {Qd : Hp → Prop} (I : Nat → Hp → Prop) (start : I 0 (upd H1 D (.dK []))) (stays : ∀ i H, i ≤ xs.length → I i H → SqL K H a xs)
    (turn : ∀ i x H, xs[i]? = some x → I i H → DTurn g tt tk tv vs σ D (I (i + 1)) x H) (after : ∀ H, I xs.length H → Qd H) :
    ∃ W : Nat → Nat → Hp → Prop, (∃ m, W 0 m (upd H1 D (.dK []))) ∧ ∀ i m H, W i m H → ((Itl K a).stop i H ∧ Qd H) ∨ ((Itl K a).go i H ∧ ∃ Nx : Hp → Prop, (∀ H', Nx H' → ∃ m', m' < m ∧ W (i + 1) m' H') ∧ ∀ x H', (Itl K a).yld i H x H' → DTurn g tt tk tv vs σ D Nx x H') := by
  let W : Nat → Nat → Hp → Prop := fun i m H => i + m = xs.length ∧ I i H
  refine ⟨W, ⟨xs.length, Nat.zero_add _, start⟩, ?_⟩
  intro i m H w
  obtain ⟨sum, p⟩ := w
  have here := stays i H (by omega) p
  cases m with
  | zero =>
    have e : i = xs.length := by omega
    subst e
    exact .inl ⟨⟨xs, here, Nat.le_refl _⟩, after H p⟩
  | succ m =>
    have lt : i < xs.length := by omega
    refine .inr ⟨⟨xs, xs[i], here, List.getElem?_eq_getElem lt⟩, I (i + 1), fun H' p' => ⟨m, Nat.lt_succ_self m, by omega, p'⟩, ?_⟩
    rintro x H' ⟨rfl, is_⟩
    exact turn i x _ (is_ xs here) p
def spReached (K : PySem.W.Frag) : Sp := fun vs H Q _ => ∃ (s : Int) (a : Addr) (as : List Addr) (ts : List Tr), vs = [.int s, .ref a] ∧ Sq K H a (as.map V.ref) ∧ Laid H as ts ∧ ts.length ≤ 60 ∧
  ∀ (ys : List Int) (p : Addr) H', States ts [s] ys → Same H H' → H p = none → H' p = some (.lst (ys.map V.int)) → Q (.ref p) H'
def spTargets (K : PySem.W.Frag) : Sp := fun vs H Q _ => ∃ (a : Addr) (as : List Addr) (ts : List Tr), vs = [.ref a] ∧ Sq K H a (as.map V.ref) ∧ Laid H as ts ∧ ts.length ≤ 60 ∧
  ∀ p ls H', Same H H' → H p = none → H' p = some (.dK (tgD ls)) → Tgt H' ts ls → (∀ e ∈ ls, H e.2 = none) → Q (.ref p) H'
def spStatesFrom (K : PySem.W.Frag) : Sp := fun vs H Q _ => ∃ (b a : Addr) (as : List Addr) (ts : List Tr) (ss us : List Int), vs = [.ref b, .ref a] ∧ H b = some (.lst (ss.map V.int)) ∧ ss.length ≤ 100 ∧ Sq K H a (as.map V.ref) ∧ Laid H as ts ∧ ts.length ≤ 60 ∧ us.length < 64 ∧ (∀ s ∈ ss, s ∈ us) ∧ (∀ t ∈ ts, t.2.2 ∈ us) ∧
  ∀ (ys : List Int) (p : Addr) H', States ts ss ys → Same H H' → H p = none → H' p = some (.lst (ys.map V.int)) → Q (.ref p) H'
section
variable {P : Program} {w : World} {K : PySem.W.Frag} {mg : PySem.Str → Option Value} {base : Heap}
theorem ok_targets_by_state (T : Bt mg) {f : Addr} {fd : FuncData} (F : FunD K "targets_by_state" "targets_by_state" (defArgs s_targets_by_state) (defBody s_targets_by_state) (defScope s_targets_by_state) [] [] f fd) : FnOk P w K mg base CX0 1 f fd ["steps"] (spTargets K) := by
  refine F.ok sc_targets_by_state (fun vs H Q E h => ?_) (fun cdv A outer s H vs Q E hr h => ?_)
  · obtain ⟨a, as, ts, rfl, _⟩ := h
    rfl
  · obtain ⟨a, as, ts, rfl, row, la, n60, k⟩ := h
    have hu := hu_of hr
    refine ⟨_, PSs.nox (pss_cons (ps_set (i := 1) sc_targets_by_state.nd rfl (Or.inl rfl) pe_dnewK) (pss_cons (ps_for PassesOwn.never rfl (pi_seq (pv 0)) (pg_name (i := 2) sc_targets_by_state.nd rfl (Or.inl rfl)) (pss_one (ps_expr (pe_bm PySem.F.plainAttrs_list PySem.F.slot_list_append PySem.F.type_list_append mt_append (pe_dsetd (pv 1) (pe_ix ix_tup (pv 2) pe_int (fun _ _ => rfl)) (pe_lst pa_nil) ⟨by rfl, by rfl, by rfl, by rfl⟩) (pa_cons (pe_ix ix_tup (pv 2) pe_int (fun _ _ => rfl)) pa_nil))))) (pss_one (ps_ret (pv 1))))), ?_⟩
    intro p hp
    refine ⟨_, rfl, a, rfl, for_seq (K := K) (xs := as.map V.ref) row (fun i σ H' => ∃ (ls : List (Int × Addr)) (v2 : Option V), σ = [some (.ref a), some (.ref p), v2] ∧ Same H H' ∧ H' p = some (.dK (tgD ls)) ∧ Tgt H' (ts.take i) ls ∧ (∀ e ∈ ls, H e.2 = none) ∧ ls.length ≤ i) ?_ ?_ ?_ ?_⟩
    · exact ⟨[], _, rfl, same_new (Same.refl _) hp, upd_same, ⟨List.nodup_nil, List.nodup_nil, fun e h => absurd h List.not_mem_nil, fun s _ => by simp [outs]⟩, fun e h => absurd h List.not_mem_nil, Nat.le_refl _⟩
    · rintro i σ' H' _ ⟨_, _, _, sm, _⟩ o e
      exact sm _ _ e
    · rintro i x σ' H1 hx ⟨ls, v2, rfl, sm, hd, tg, fr, le⟩
      obtain ⟨q, hq, rfl⟩ := ref_at hx
      obtain ⟨t, ht, hqt⟩ := la.at' hq
      have il : i < ts.length := (List.getElem?_eq_some_iff.mp ht).1
      have q1 := sm _ _ hqt
      refine ⟨_, rfl, p, rfl, .inl ⟨_, .inl hd⟩, _, rfl, q, _, _, .int t.1, rfl, rfl, SqT.of q1, rfl, Nat.zero_le _, fun z hz => ?_⟩
      have nzp : p ≠ z := ne_of_none hd hz
      have hd2 : (L2.upd H1 z (.lst [])) p = some (.dK (tgD ls)) := by rw [upd_ne nzp]; exact hd
      have q2 : (L2.upd H1 z (.lst [])) q = some (.tup (trV t)) := by rw [upd_ne (ne_of_none q1 hz)]; exact q1
      have sm2 : Same H (L2.upd H1 z (.lst [])) := same_new sm hz
      have at2 : ∀ e ∈ ls, (L2.upd H1 z (.lst [])) e.2 = some (.lst ((outs (ts.take i) e.1).map V.int)) := fun e he => by rw [upd_ne (ne_of_none (tg.at_ e he) hz)]; exact tg.at_ e he
      have z2 : (L2.upd H1 z (.lst [])) z = some (.lst []) := upd_same
      have nz : ∀ e ∈ ls, e.2 ≠ z := fun e he => ne_of_none (tg.at_ e he) hz
      have hz0 : H z = none := sm.free hz
      generalize L2.upd H1 z (.lst []) = H2 at hd2 q2 sm2 at2 z2 ⊢
      have few : (tgD ls).length ≤ 1000 := by
        unfold tgD
        rw [List.length_map]
        omega
      refine ⟨tgD ls, .inl t.1, hd2, rfl, small1000 few, fun v hv => ?_, fun hn => ?_⟩
      · obtain ⟨l, rfl, m⟩ := tg_some hv
        have hl := at2 _ m
        refine ⟨.inl ⟨rfl, _, SqL.of hl⟩, _, rfl, q, _, _, .int t.2.2, rfl, rfl, SqT.of q2, rfl, l, _, _, rfl, rfl, hl, ?_, ?_⟩
        · rw [List.length_map]
          have o60 : (outs (ts.take i) t.1).length ≤ 1000 := by
            have := outs_len (ts.take i) t.1
            rw [List.length_take] at this
            omega
          exact small1000 o60
        have npl : p ≠ l := (ne_of hl hd2 fun z => nomatch z).symm
        refine ⟨ls, _, rfl, same_put sm2 (fr _ m), by rw [upd_ne npl]; exact hd2, ⟨tg.nd, tg.na, fun e he => ?_, fun s hs => ?_⟩, fr, by omega⟩
        · rw [take_at ht, outs_snoc]
          by_cases q : t.1 = e.1
          · rw [if_pos q]
            have e2 : e.2 = l := nd_fst tg.nd (x := e.1) (y := e.2) (z := l) he (by rw [← q]; exact m)
            rw [e2, upd_same, ← q, List.map_append]
            rfl
          · rw [if_neg q]
            have n2 : e.2 ≠ l := fun z => q (nd_snd tg.na (x := t.1) (z := e.1) (y := l) m (by rw [← z]; exact he))
            rw [upd_ne n2]
            exact at2 e he
        · rw [take_at ht, outs_snoc, if_neg fun z => hs (List.mem_map.mpr ⟨_, m, z⟩)]
          exact tg.all s hs
      · have nt := tg_none hn
        have e8 : putK (tgD ls) (.inl t.1 : Key) (.ref z) = tgD (ls ++ [(t.1, z)]) := by
          rw [putK_new _ hn]
          unfold tgD
          rw [List.map_append]
          rfl
        rw [e8]
        have z3 : (L2.upd H2 p (.dK (tgD (ls ++ [(t.1, z)])))) z = some (.lst []) := by rw [upd_ne nzp.symm]; exact z2
        have q3 : (L2.upd H2 p (.dK (tgD (ls ++ [(t.1, z)])))) q = some (.tup (trV t)) := by rw [upd_ne (ne_of q2 hd2 fun z => nomatch z)]; exact q2
        refine ⟨.inl ⟨rfl, _, SqL.of z3⟩, _, rfl, q, _, _, .int t.2.2, rfl, rfl, SqT.of q3, rfl, z, _, _, rfl, rfl, z3, by decide, ?_⟩
        refine ⟨ls ++ [(t.1, z)], _, rfl, same_put (same_put sm2 hp) hz0, by rw [upd_ne nzp]; exact upd_same, ⟨?_, ?_, fun e he => ?_, fun s hs => ?_⟩, fun e he => ?_, by rw [List.length_append]; show ls.length + 1 ≤ i + 1; omega⟩
        · rw [List.map_append]
          exact nd_snoc tg.nd nt
        · rw [List.map_append]
          exact nd_snoc tg.na fun m => by
            obtain ⟨e, he, q⟩ := List.mem_map.mp m
            exact nz e he q
        · rw [take_at ht, outs_snoc]
          rcases List.mem_append.mp he with m | m
          · have q : ¬ t.1 = e.1 := fun q => nt (List.mem_map.mpr ⟨_, m, q.symm⟩)
            rw [if_neg q, upd_ne (nz e m), upd_ne (ne_of (at2 e m) hd2 fun z => nomatch z)]
            exact at2 e m
          · rw [List.mem_singleton.mp m, if_pos rfl, tg.all _ nt]
            exact upd_same
        · rw [List.map_append] at hs
          have hs := not_or.mp (fun z => hs (List.mem_append.mpr z))
          rw [take_at ht, outs_snoc, if_neg fun z => hs.2 (by rw [← z]; simp)]
          exact tg.all s hs.1
        · rcases List.mem_append.mp he with m | m
          · exact fr e m
          · rw [List.mem_singleton.mp m]; exact hz0
    · rintro σ' H1 ⟨ls, v2, rfl, sm, hd, tg, fr, le⟩
      rw [List.length_map, la.len, List.take_length] at tg
      exact ⟨_, rfl, k p ls H1 sm hp hd tg fr⟩
theorem cl_targets_by_state (T : Bt mg) (a : At K mg "targets_by_state" s_targets_by_state) : Cl P w K mg base 1 "targets_by_state" (spTargets K) [] := a.cal (ps := ["steps"]) (fun _ _ F => ok_targets_by_state T F) (fun _ _ _ _ _ _ us hl => match us, hl with | [_], _ => rfl)
/-- what a search has found: R, and what of it still waits, W -/
structure Sr (ts : List Tr) (ss : List Int) (R W : List Int) : Prop where
  nd : R.Nodup
  nw : W.Nodup
  sub : ∀ x ∈ W, x ∈ R
  rc : ∀ x ∈ R, Reach ts ss x
  st : ∀ x ∈ ss, x ∈ R
theorem ok_states_from (T : Bt mg) (c_targets_by_state : Cl P w K mg base 1 "targets_by_state" (spTargets K) []) {f : Addr} {fd : FuncData} (F : FunD K "states_from" "states_from" (defArgs s_states_from) (defBody s_states_from) (defScope s_states_from) [] [] f fd) : FnOk P w K mg base CX0 2 f fd ["states", "steps"] (spStatesFrom K) := by
  refine F.ok sc_states_from (fun vs H Q E h => ?_) (fun cdv A outer s H vs Q E hr h => ?_)
  · obtain ⟨b, a, as, ts, ss, us, rfl, _⟩ := h
    rfl
  · obtain ⟨b, a, as, ts, ss, us, rfl, hb, s100, row, la, n60, u64, su, tu, k⟩ := h
    have hu := hu_of hr
    refine ⟨_, PSs.nox (pss_cons (ps_set (i := 2) sc_states_from.nd rfl (Or.inl rfl) (pe_cl c_targets_by_state hr (by decide) rfl (pa_cons (pv 1) pa_nil))) (pss_cons (Txs.ps_setDc (i := 3) (own := [("state", 5)]) (tt := tYes) rfl sc_states_from.nd rfl rfl (Txs.used_dc rfl rfl rfl (by decide +kernel)) (pi_list (pv 0)) (blkOk_by (N := N_states_from) (sc := defScope s_states_from) (by decide +kernel)) (fun _ _ _ _ _ => (pg_name (i := 5) sc_states_from.nd rfl (Or.inl rfl))) (fun _ _ _ _ _ => pts_nil) (fun _ _ _ _ _ => (pv 5)) (fun _ _ _ _ _ => pe_bl)) (pss_cons (ps_set (i := 4) sc_states_from.nd rfl (Or.inl rfl) (pe_callTy (call_listD rfl) (by rfl) T.b_list (by decide +kernel) (pa_cons (pv 3) pa_nil))) (pss_cons (ps_while PassesOwn.never (pt_truth (pv 4) (by intro _; rfl)) (pss_cons (ps_set (i := 5) sc_states_from.nd rfl (Or.inl rfl) (pe_bm0 PySem.F.plainAttrs_list PySem.F.slot_list_pop PySem.F.type_list_pop mt_pop (pv 4))) (pss_one (ps_for PassesOwn.never rfl (pi_list (pe_dget2 hu (pv 2) (pv 5) (pe_lst pa_nil) ⟨by rfl, by rfl, by rfl, by rfl⟩)) (pg_name (i := 6) sc_states_from.nd rfl (Or.inl rfl)) (pss_one (ps_if (pt_cmp (pc_dnotin hu (pv 6) (pv 3))) (pss_cons (ps_dput hu (pv 3) (pv 6) pe_bl rfl) (pss_one (ps_expr (pe_bm PySem.F.plainAttrs_list PySem.F.slot_list_append PySem.F.type_list_append mt_append (pv 4) (pa_cons (pv 6) pa_nil))))) pss_nil)))))) (pss_one (ps_ret (pe_callB (call_sortedDI rfl) (by rfl) T.b_sorted (by decide +kernel) (pa_cons (pv 3) pa_nil)))))))), ?_⟩
    refine ⟨_, rfl, a, as, ts, rfl, row, la, n60, fun p ls H1 m1 f1 hd1 tg1 fr1 => ?_⟩
    -- the start
    refine ⟨_, rfl, b, rfl, ⟨_, SqL.of (m1 _ _ hb)⟩, fun D hD => dc_list (K := K) (xs := ss.map V.int) (fun j H' => ∃ R : List Int, Same H1 H' ∧ H' D = some (.dK (rdK R)) ∧ R.Nodup ∧ (∀ x, x ∈ R ↔ x ∈ ss.take j)) ?_ ?_ ?_ ?_⟩
    · exact ⟨[], same_new (Same.refl _) hD, upd_same, List.nodup_nil, fun x => by simp⟩
    · exact fun j H' _ ⟨_, sm, _⟩ => SqL.of (sm _ _ (m1 _ _ hb))
    · rintro j x H2 hx ⟨R, sm, hR, nd, mem⟩
      obtain ⟨z, hz, rfl⟩ := int_at' hx
      have jl : j < ss.length := (List.getElem?_eq_some_iff.mp hz).1
      have rl : R.length ≤ ss.length := nodup_le nd fun x hx => List.mem_of_mem_take ((mem x).1 hx)
      refine ⟨rfl, _, rfl, rdK R, .inl z, rfl, hR, small1000 (by unfold rdK; rw [List.length_map]; omega), ?_⟩
      by_cases m : z ∈ R
      · rw [rd_again m]
        refine ⟨R, same_put sm hD, upd_same, nd, fun x => ?_⟩
        rw [take_at hz, List.mem_append, List.mem_singleton, mem]
        exact ⟨.inl, fun q => q.elim id fun e => (mem x).1 (by rw [e]; exact m)⟩
      · rw [rd_put m]
        refine ⟨R ++ [z], same_put sm hD, upd_same, nd_snoc nd m, fun x => ?_⟩
        rw [take_at hz, List.mem_append, List.mem_append, mem]
    rintro H2 ⟨R0, sm2, hR0, nd0, mem0⟩
    rw [List.length_map, List.take_length] at mem0
    have m2 := m1.trans sm2
    refine ⟨_, rfl, D, rdK R0, rfl, .inl hR0, fun W hW => ?_⟩
    rw [rd_list]
    have m3 : Same H (L2.upd H2 W (.lst (R0.map V.int))) := same_new m2 hW
    have g3 : Same H2 (L2.upd H2 W (.lst (R0.map V.int))) := same_new (Same.refl _) hW
    have w3 : (L2.upd H2 W (.lst (R0.map V.int))) W = some (.lst (R0.map V.int)) := upd_same
    have d3 := g3 _ _ hR0
    have p3 := g3 _ _ (sm2 _ _ hd1)
    have at3 : ∀ e ∈ ls, (L2.upd H2 W (.lst (R0.map V.int))) e.2 = some (.lst ((outs ts e.1).map V.int)) := fun e he => g3 _ _ (sm2 _ _ (tg1.at_ e he))
    have D0 : H D = none := m1.free hD
    have W0 : H W = none := m2.free hW
    have frW : ∀ e ∈ ls, e.2 ≠ W := fun e he => ne_of_none (sm2 _ _ (tg1.at_ e he)) hW
    have nDW : D ≠ W := ne_of_none hR0 hW
    have npD : p ≠ D := ne_of_none hd1 hD
    have npW : p ≠ W := ne_of_none (sm2 _ _ hd1) hW
    have frD : ∀ e ∈ ls, e.2 ≠ D := fun e he => ne_of_none (tg1.at_ e he) hD
    generalize L2.upd H2 W (.lst (R0.map V.int)) = H3 at m3 w3 d3 p3 at3 ⊢
    have few : ∀ {R : List Int}, R.Nodup → (∀ x ∈ R, Reach ts ss x) → R.length ≤ us.length := fun nd rc => nodup_le nd fun x hx => Reach.sub (P := fun x => x ∈ us) su (fun t m _ => tu t m) (rc x hx)
    refine ⟨fun m σ H' => ∃ (R Ws : List Int) (v5 v6 : Option V), σ = [some (.ref b), some (.ref a), some (.ref p), some (.ref D), some (.ref W), v5, v6] ∧ Same H H' ∧ H' D = some (.dK (rdK R)) ∧ H' W = some (.lst (Ws.map V.int)) ∧ H' p = some (.dK (tgD ls)) ∧ (∀ e ∈ ls, H' e.2 = some (.lst ((outs ts e.1).map V.int))) ∧
      Sr ts ss R Ws ∧ (∀ x ∈ R, x ∉ Ws → ∀ y ∈ outs ts x, y ∈ R) ∧ m = 2 * (us.length - R.length) + Ws.length, ?_, ?_⟩
    · exact ⟨_, R0, R0, _, _, rfl, m3, d3, w3, p3, at3, ⟨nd0, nd0, fun x h => h, fun x hx => .start ((mem0 x).1 hx), fun x hx => (mem0 x).2 hx⟩, fun x h1 h2 => absurd h1 h2, rfl⟩
    rintro m σ H4 ⟨R, Ws, v5, v6, rfl, m4, d4, w4, p4, at4, sr, cl, rfl⟩
    refine ⟨_, rfl, _, .inl ⟨_, SqL.of w4, rfl⟩, ?_⟩
    rcases List.eq_nil_or_concat Ws with e | ⟨Wp, z, e⟩
    · subst e
      refine iteF ?_
      refine ⟨_, rfl, D, rdK R, R, rfl, .inl d4, rd_keys R, Nat.lt_of_le_of_lt (few sr.nd sr.rc) u64, fun ys q pm asc hq => ?_⟩
      refine k ys q _ ⟨lt_of_nd asc (pm.nodup_iff.2 sr.nd), fun x => pm.mem_iff.trans ⟨sr.rc x, fun h => Reach.sub (P := fun x => x ∈ R) sr.st (fun t mt hx => cl _ hx List.not_mem_nil _ (mem_outs.2 ⟨t, mt, rfl, rfl⟩)) h⟩⟩ (same_new m4 hq) (m4.free hq) upd_same
    · have e : Ws = Wp ++ [z] := by rw [e]; simp
      subst e
      have zR : z ∈ R := sr.sub z (by simp)
      have nwp : Wp.Nodup := (List.nodup_append.mp sr.nw).1
      have zW : z ∉ Wp := fun m => (List.nodup_append.mp sr.nw).2.2 z m z (by simp) rfl
      have ne : (!((Wp ++ [z]).map V.int).isEmpty) = true := by simp
      rw [ne]
      refine iteT ⟨fun σ' H' => ∃ m' < 2 * (us.length - R.length) + (Wp ++ [z]).length, ∃ (R Ws : List Int) (v5 v6 : Option V), σ' = [some (.ref b), some (.ref a), some (.ref p), some (.ref D), some (.ref W), v5, v6] ∧ Same H H' ∧ H' D = some (.dK (rdK R)) ∧ H' W = some (.lst (Ws.map V.int)) ∧ H' p = some (.dK (tgD ls)) ∧ (∀ e ∈ ls, H' e.2 = some (.lst ((outs ts e.1).map V.int))) ∧
        Sr ts ss R Ws ∧ (∀ x ∈ R, x ∉ Ws → ∀ y ∈ outs ts x, y ∈ R) ∧ m' = 2 * (us.length - R.length) + Ws.length, fun σ' H' h => ?_, ?_⟩
      · obtain ⟨m', l, h⟩ := h
        exact ⟨m', l, h⟩
      refine ⟨_, rfl, .inl ⟨rfl, _, SqL.of w4⟩, W, _, .int z, rfl, rfl, w4, by simp, ?_⟩
      have dl : ((Wp ++ [z]).map V.int).dropLast = Wp.map V.int := by rw [List.map_append]; simp
      rw [dl]
      have m5 : Same H (L2.upd H4 W (.lst (Wp.map V.int))) := same_put m4 W0
      have w5 : (L2.upd H4 W (.lst (Wp.map V.int))) W = some (.lst (Wp.map V.int)) := upd_same
      have d5 : (L2.upd H4 W (.lst (Wp.map V.int))) D = some (.dK (rdK R)) := by rw [upd_ne nDW]; exact d4
      have p5 : (L2.upd H4 W (.lst (Wp.map V.int))) p = some (.dK (tgD ls)) := by rw [upd_ne npW]; exact p4
      have at5 : ∀ e ∈ ls, (L2.upd H4 W (.lst (Wp.map V.int))) e.2 = some (.lst ((outs ts e.1).map V.int)) := fun e he => by rw [upd_ne (frW e he)]; exact at4 e he
      generalize L2.upd H4 W (.lst (Wp.map V.int)) = H5 at m5 w5 d5 p5 at5 ⊢
      refine ⟨_, rfl, p, rfl, .inl ⟨_, .inl p5⟩, _, rfl, Nat.zero_le _, fun l0 hl0 => ?_⟩
      -- what is walked: a list of its own
      have g6 : Same H5 (L2.upd H5 l0 (.lst [])) := same_new (Same.refl _) hl0
      have m6 := same_new m5 hl0 (o := .lst [])
      obtain ⟨l, hl, ho, nlD, nlW⟩ : ∃ l, (valV (tgD ls) (.inl z : Key)).getD (.ref l0) = .ref l ∧ (L2.upd H5 l0 (.lst [])) l = some (.lst ((outs ts z).map V.int)) ∧ l ≠ D ∧ l ≠ W := by
        cases q : valV (tgD ls) (.inl z : Key) with
        | none => exact ⟨l0, rfl, by rw [upd_same, tg1.all z (tg_none q)]; rfl, (ne_of_none d5 hl0).symm, (ne_of_none w5 hl0).symm⟩
        | some v =>
          obtain ⟨l, rfl, mm⟩ := tg_some q
          exact ⟨l, rfl, g6 _ _ (at5 _ mm), frD _ mm, frW _ mm⟩
      have w6 := g6 _ _ w5
      have d6 := g6 _ _ d5
      have p6 := g6 _ _ p5
      have at6 : ∀ e ∈ ls, (L2.upd H5 l0 (.lst [])) e.2 = some (.lst ((outs ts e.1).map V.int)) := fun e he => g6 _ _ (at5 e he)
      have dg := DGet.k (k := .inl z) p6
      generalize L2.upd H5 l0 (.lst []) = H6 at m6 ho w6 d6 p6 at6 dg ⊢
      refine ⟨_, dg, ?_⟩
      rw [hl]
      have ol : (outs ts z).length ≤ 60 := Nat.le_trans (outs_len _ _) n60
      refine ⟨l, rfl, ⟨_, SqL.of ho⟩, for_list (K := K) (xs := (outs ts z).map V.int) (fun j σ H' => ∃ (R2 W2 : List Int) (v6 : Option V), σ = [some (.ref b), some (.ref a), some (.ref p), some (.ref D), some (.ref W), some (.int z), v6] ∧ Same H H' ∧ H' D = some (.dK (rdK R2)) ∧ H' W = some (.lst (W2.map V.int)) ∧ H' p = some (.dK (tgD ls)) ∧ (∀ e ∈ ls, H' e.2 = some (.lst ((outs ts e.1).map V.int))) ∧ H' l = some (.lst ((outs ts z).map V.int)) ∧
        Sr ts ss R2 W2 ∧ (∀ x ∈ R, x ∈ R2) ∧ z ∉ W2 ∧ (∀ x ∈ R2, x ∉ W2 → x ≠ z → ∀ y ∈ outs ts x, y ∈ R2) ∧ (∀ y ∈ (outs ts z).take j, y ∈ R2) ∧ R2.length + Wp.length = R.length + W2.length) ?_ ?_ ?_ ?_⟩
      · refine ⟨R, Wp, _, rfl, m6, d6, w6, p6, at6, ho, ⟨sr.nd, nwp, fun x h => sr.sub x (by simp [h]), sr.rc, sr.st⟩, fun x h => h, zW, fun x h1 h2 h3 => cl x h1 (fun m => ?_), fun y h => absurd h (by simp), rfl⟩
        rcases List.mem_append.mp m with q | q
        · exact h2 q
        · exact h3 (List.mem_singleton.mp q)
      · rintro j σ' H' _ ⟨_, _, _, _, _, _, _, _, _, h, _⟩
        exact SqL.of h
      · rintro j x σ' H7 hx ⟨R2, W2, v6, rfl, m7, d7, w7, p7, at7, l7, sr2, mono, zn, cl2, tk, cnt⟩
        obtain ⟨y, hy, rfl⟩ := int_at' hx
        have ym := List.mem_of_getElem? hy
        refine ⟨_, rfl, _, rfl, D, _, rfl, DGet.k (k := .inl y) d7, _, rfl, ?_⟩
        rw [rd_val]
        by_cases m : y ∈ R2
        · rw [if_pos m]
          refine iteF ⟨R2, W2, _, rfl, m7, d7, w7, p7, at7, l7, sr2, mono, zn, cl2, fun u hu => ?_, cnt⟩
          rw [take_at hy] at hu
          rcases List.mem_append.mp hu with q | q
          · exact tk u q
          · rw [List.mem_singleton.mp q]; exact m
        · rw [if_neg m]
          have l2 := few sr2.nd sr2.rc
          have l3 : W2.length ≤ R2.length := nodup_le sr2.nw sr2.sub
          refine iteT ⟨_, rfl, _, rfl, D, _, rfl, DPut.k (k := .inl y) d7 (small1000 (by unfold rdK; rw [List.length_map]; omega)), ?_⟩
          rw [rd_put m]
          have w8 : (L2.upd H7 D (.dK (rdK (R2 ++ [y])))) W = some (.lst (W2.map V.int)) := by rw [upd_ne nDW.symm]; exact w7
          refine ⟨_, rfl, .inl ⟨rfl, _, SqL.of w8⟩, _, rfl, W, _, _, rfl, rfl, w8, small1000 (by rw [List.length_map]; omega), ?_⟩
          have yz : y ≠ z := fun e => m (by rw [e]; exact mono z zR)
          have yr : Reach ts ss y := by
            obtain ⟨t, mt, e1, e2⟩ := mem_outs.1 ym
            rw [← e2]
            exact .step (by rw [e1]; exact sr.rc z zR) mt
          have yW : y ∉ W2 := fun q => m (sr2.sub y q)
          refine ⟨R2 ++ [y], W2 ++ [y], _, rfl, same_put (same_put m7 D0) W0, by rw [upd_ne nDW]; exact upd_same, by rw [upd_same, List.map_append]; rfl, by rw [upd_ne npW, upd_ne npD]; exact p7, fun e he => by rw [upd_ne (frW e he), upd_ne (frD e he)]; exact at7 e he, by rw [upd_ne nlW, upd_ne nlD]; exact l7,
            ⟨nd_snoc sr2.nd m, nd_snoc sr2.nw yW, fun x hx => ?_, fun x hx => ?_, fun x hx => List.mem_append.mpr (.inl (sr2.st x hx))⟩, fun x hx => List.mem_append.mpr (.inl (mono x hx)), fun q => ?_, fun x h1 h2 h3 u hu => ?_, fun u hu => ?_, ?_⟩
          · rcases List.mem_append.mp hx with q | q
            · exact List.mem_append.mpr (.inl (sr2.sub x q))
            · exact List.mem_append.mpr (.inr q)
          · rcases List.mem_append.mp hx with q | q
            · exact sr2.rc x q
            · rw [List.mem_singleton.mp q]; exact yr
          · rcases List.mem_append.mp q with q | q
            · exact zn q
            · exact yz (List.mem_singleton.mp q).symm
          · have h2 := not_or.mp (fun q => h2 (List.mem_append.mpr q))
            rcases List.mem_append.mp h1 with q | q
            · exact List.mem_append.mpr (.inl (cl2 x q h2.1 h3 u hu))
            · exact absurd q h2.2
          · rw [take_at hy] at hu
            rcases List.mem_append.mp hu with q | q
            · exact List.mem_append.mpr (.inl (tk u q))
            · exact List.mem_append.mpr (.inr q)
          · rw [List.length_append, List.length_append]
            simp only [List.length_singleton]
            omega
      · rintro σ' H7 ⟨R2, W2, v6', rfl, m7, d7, w7, p7, at7, l7, sr2, mono, zn, cl2, tk, cnt⟩
        rw [List.length_map, List.take_length] at tk
        have l2 := few sr2.nd sr2.rc
        have l1 : R.length ≤ R2.length := nodup_le sr.nd mono
        refine ⟨_, ?_, R2, W2, _, _, rfl, m7, d7, w7, p7, at7, sr2, fun x h1 h2 u hu => ?_, rfl⟩
        · rw [List.length_append]
          simp only [List.length_singleton]
          omega
        · by_cases q : x = z
          · subst q
            exact tk u hu
          · exact cl2 x h1 h2 q u hu
theorem cl_states_from (T : Bt mg) (c_targets_by_state : Cl P w K mg base 1 "targets_by_state" (spTargets K) []) (a : At K mg "states_from" s_states_from) : Cl P w K mg base 2 "states_from" (spStatesFrom K) [] := a.cal (ps := ["states", "steps"]) (fun _ _ F => ok_states_from T c_targets_by_state F) (fun _ _ _ _ _ _ us hl => match us, hl with | [_, _], _ => rfl)
end
end Lw

namespace Lw
open PySem PySem.Spec PyProof.Rows L2 Txs
open C8 (pe_gc)
/-! ### a plant -/
def plF (s : Int) (l1 l2 l3 l4 l5 : Addr) : List (PySem.Str × V) :=
  putF "state_list" (.ref l5) (putF "barred_list" (.ref l4) (putF "wanted_list" (.ref l3) (putF "word_list" (.ref l2) (putF "step_list" (.ref l1) (putF "start_state" (.int s) [])))))
section
variable (s : Int) (l1 l2 l3 l4 l5 : Addr)
theorem plF_start : (plF s l1 l2 l3 l4 l5).lookup ("start_state" : PySem.Str) = some (.int s) := by
  unfold plF
  rw [lookup_putF, if_neg (by decide +kernel), lookup_putF, if_neg (by decide +kernel), lookup_putF, if_neg (by decide +kernel), lookup_putF, if_neg (by decide +kernel), lookup_putF, if_neg (by decide +kernel), lookup_putF, if_pos rfl]
theorem plF_steps : (plF s l1 l2 l3 l4 l5).lookup ("step_list" : PySem.Str) = some (.ref l1) := by
  unfold plF
  rw [lookup_putF, if_neg (by decide +kernel), lookup_putF, if_neg (by decide +kernel), lookup_putF, if_neg (by decide +kernel), lookup_putF, if_neg (by decide +kernel), lookup_putF, if_pos rfl]
theorem plF_words : (plF s l1 l2 l3 l4 l5).lookup ("word_list" : PySem.Str) = some (.ref l2) := by
  unfold plF
  rw [lookup_putF, if_neg (by decide +kernel), lookup_putF, if_neg (by decide +kernel), lookup_putF, if_neg (by decide +kernel), lookup_putF, if_pos rfl]
theorem plF_wanted : (plF s l1 l2 l3 l4 l5).lookup ("wanted_list" : PySem.Str) = some (.ref l3) := by
  unfold plF
  rw [lookup_putF, if_neg (by decide +kernel), lookup_putF, if_neg (by decide +kernel), lookup_putF, if_pos rfl]
theorem plF_barred : (plF s l1 l2 l3 l4 l5).lookup ("barred_list" : PySem.Str) = some (.ref l4) := by
  unfold plF
  rw [lookup_putF, if_neg (by decide +kernel), lookup_putF, if_pos rfl]
theorem plF_states : (plF s l1 l2 l3 l4 l5).lookup ("state_list" : PySem.Str) = some (.ref l5) := by
  unfold plF
  rw [lookup_putF, if_pos rfl]
end
/-- the class, as the walk asks of it -/
structure PlC (K : PySem.W.Frag) (C : Addr) : Prop where
  cl : Cls K C
  n1 : NoAttr K C "start_state"
  n2 : NoAttr K C "step_list"
  n3 : NoAttr K C "word_list"
  n4 : NoAttr K C "wanted_list"
  n5 : NoAttr K C "barred_list"
  n6 : NoAttr K C "state_list"
structure Pl where
  start : Int
  steps : List Tr
  words : List PySem.Str
  wanted : List Int
  barred : List Int
  states : List Int
/-- where a plant and its lists stand -/
structure PlAt where
  p : Addr
  dx : Addr
  l1 : Addr
  l2 : Addr
  l3 : Addr
  l4 : Addr
  l5 : Addr
def PlAt.lists (A : PlAt) : List Addr := [A.l1, A.l2, A.l3, A.l4, A.l5]
structure IsPl (C : Addr) (H : Hp) (A : PlAt) (d : Pl) : Prop where
  ins : H A.p = some (.ins C A.dx (plF d.start A.l1 A.l2 A.l3 A.l4 A.l5))
  steps : ∃ as, H A.l1 = some (.lst (as.map V.ref)) ∧ Laid H as d.steps
  words : H A.l2 = some (.lst (d.words.map V.str))
  wanted : H A.l3 = some (.lst (d.wanted.map V.int))
  barred : H A.l4 = some (.lst (d.barred.map V.int))
  states : H A.l5 = some (.lst (d.states.map V.int))
  small : d.steps.length ≤ 60 ∧ d.words.length ≤ 12 ∧ d.wanted.length ≤ 60 ∧ d.barred.length ≤ 60 ∧ d.states.length ≤ 61
theorem IsPl.same {C : Addr} {H H' : Hp} {A : PlAt} {d : Pl} (h : IsPl C H A d) (k : Same H H') : IsPl C H' A d :=
  ⟨k _ _ h.ins, let ⟨as, e, l⟩ := h.steps; ⟨as, k _ _ e, l.same k⟩, k _ _ h.words, k _ _ h.wanted, k _ _ h.barred, k _ _ h.states, h.small⟩
/-- a list that is none of its own changes -/
theorem IsPl.put {C : Addr} {H : Hp} {A : PlAt} {d : Pl} {q : Addr} {xs ys : List V} (h : IsPl C H A d) (e : H q = some (.lst xs)) (n : q ∉ A.lists) : IsPl C (L2.upd H q (.lst ys)) A d := by
  have ne : ∀ l ∈ A.lists, l ≠ q := fun l hl z => n (z ▸ hl)
  have n1 := ne A.l1 (by simp [PlAt.lists])
  have n2 := ne A.l2 (by simp [PlAt.lists])
  have n3 := ne A.l3 (by simp [PlAt.lists])
  have n4 := ne A.l4 (by simp [PlAt.lists])
  have n5 := ne A.l5 (by simp [PlAt.lists])
  exact ⟨by rw [upd_ne (ne_of h.ins e fun z => nomatch z)]; exact h.ins, let ⟨as, e1, l⟩ := h.steps; ⟨as, by rw [upd_ne n1]; exact e1, l.put e⟩, by rw [upd_ne n2]; exact h.words, by rw [upd_ne n3]; exact h.wanted, by rw [upd_ne n4]; exact h.barred, by rw [upd_ne n5]; exact h.states, h.small⟩
theorem IsPl.there {C : Addr} {H : Hp} {A : PlAt} {d : Pl} (h : IsPl C H A d) : ∀ l ∈ A.lists, ∃ o, H l = some o := by
  intro l hl
  simp only [PlAt.lists, List.mem_cons, List.not_mem_nil, or_false] at hl
  obtain ⟨as, e, _⟩ := h.steps
  rcases hl with rfl | rfl | rfl | rfl | rfl
  · exact ⟨_, e⟩
  · exact ⟨_, h.words⟩
  · exact ⟨_, h.wanted⟩
  · exact ⟨_, h.barred⟩
  · exact ⟨_, h.states⟩
/-- what a plant of these arguments holds -/
structure PlOf (s : Int) (ts : List Tr) (wn br : List Int) (d : Pl) : Prop where
  start : d.start = s
  steps : d.steps = ts
  words : Words ts d.words
  wanted : d.wanted.Perm wn ∧ d.wanted.Pairwise (· ≤ ·)
  barred : d.barred.Perm br ∧ d.barred.Pairwise (· ≤ ·)
  states : States ts [s] d.states
/-- good arguments -/
structure GoodPl (s : Int) (ts : List Tr) (wn br : List Int) : Prop where
  s1 : 0 ≤ s ∧ s ≤ 99
  st : Steps ts
  n0 : 0 < ts.length
  n1 : ts.length ≤ 60
  wd : ∀ ys, Words ts ys → ys.length ≤ 12
  wn1 : wn.Nodup
  wn2 : ∀ x ∈ wn, 0 ≤ x ∧ x < (ts.length : Int)
  br1 : br.Nodup
  br2 : ∀ x ∈ br, 0 ≤ x ∧ x < (ts.length : Int)
  br3 : ∀ x ∈ br, x ∉ wn
theorem ints_few {m : Nat} {l : List Int} (nd : l.Nodup) (h : ∀ x ∈ l, 0 ≤ x ∧ x < (m : Int)) : l.length ≤ m := by
  have := nodup_le (m := (List.range m).map fun i : Nat => (i : Int)) nd fun x hx => by
    obtain ⟨a, b⟩ := h x hx
    exact List.mem_map.mpr ⟨x.toNat, List.mem_range.mpr (by omega), by omega⟩
  simpa using this
def spPlant (K : PySem.W.Frag) (C : Addr) : Sp := fun vs H Q _ => ∃ (p dx : Addr) (s : Int) (a b c : Addr) (as : List Addr) (ts : List Tr) (wn br : List Int), vs = [.ref p, .int s, .ref a, .ref b, .ref c] ∧ H p = some (.ins C dx []) ∧
  RowAt K H a (as.map V.ref) ∧ Laid H as ts ∧ RowAt K H b (wn.map V.int) ∧ RowAt K H c (br.map V.int) ∧ GoodPl s ts wn br ∧
  ∀ (A : PlAt) (d : Pl) H', A.p = p → A.dx = dx → (∀ l ∈ A.lists, H l = none) → But p H H' → IsPl C H' A d → PlOf s ts wn br d → Q .non H'
theorem Laid.butp {H H' : Hp} {p C dx : Addr} {fs : List (PySem.Str × V)} {as : List Addr} {ts : List Tr} (h : Laid H as ts) (k : But p H H') (hp : H p = some (.ins C dx fs)) : Laid H' as ts :=
  h.keep fun x t e => k _ _ e (ne_of e hp fun z => nomatch z)
theorem fld_step {H Hk H' : Hp} {p C dx l : Addr} {fs : List (PySem.Str × V)} {xs : List V} {o : HO} (b : But p H Hk) (pk : Hk p = some (.ins C dx fs)) (sm : Same Hk H') (l0 : Hk l = none) (hl : H' l = some (.lst xs)) :
    But p H (L2.upd H' p o) ∧ (L2.upd H' p o) p = some o ∧ (L2.upd H' p o) l = some (.lst xs) ∧ But p Hk (L2.upd H' p o) ∧ H l = none := by
  have ne : l ≠ p := fun e => by rw [e, pk] at l0; cases l0
  have kb : But p Hk (L2.upd H' p o) := (But.of sm).trans But.upd
  refine ⟨b.trans kb, upd_same, by rw [upd_ne ne]; exact hl, kb, ?_⟩
  cases q : H l with
  | none => rfl
  | some u => rw [b l u q ne] at l0; cases l0
theorem rg_ints (n : Nat) : rgV 0 (n : Int) = ((List.range n).map fun i : Nat => (i : Int)).map V.int := by
  unfold rgV
  rw [List.map_map]
  have : (((n : Int) - 0).toNat) = n := by omega
  rw [this]
  refine List.map_congr_left fun i _ => ?_
  show V.int (0 + (i : Int)) = V.int (i : Int)
  rw [Int.zero_add]
theorem mem_rg {n : Nat} {x : Int} : x ∈ (List.range n).map (fun i : Nat => (i : Int)) ↔ 0 ≤ x ∧ x < (n : Int) := by
  rw [List.mem_map]
  constructor
  · rintro ⟨i, hi, rfl⟩
    have := List.mem_range.mp hi
    omega
  · intro h
    exact ⟨x.toNat, List.mem_range.mpr (by omega), by omega⟩
section
variable {P : Program} {w : World} {K : PySem.W.Frag} {mg : PySem.Str → Option Value} {base : Heap} {C : Addr}
theorem ok_plant (T : Bt mg) (pc : PlC K C) (c_is_state : Cl P w K mg base 2 "is_state" (spIsState K) []) (c_check_steps : Cl P w K mg base 4 "check_steps" (spCheckSteps K) []) (c_words_of : Cl P w K mg base 1 "words_of" (spWordsOf K) [])
    (c_check_marks : Cl P w K mg base 2 "check_marks" (spCheckMarks K) []) (c_without : Cl P w K mg base 1 "without" (spWithout K) []) (c_states_from : Cl P w K mg base 2 "states_from" (spStatesFrom K) []) {f : Addr} {fd : FuncData} {dvs : List V}
    (F : FunD K "__init__" "Plant.__init__" (defArgs s_Plant___init__) (defBody s_Plant___init__) (defScope s_Plant___init__) dvs [] f fd) : FnOk P w K mg base CX0 5 f fd ["self", "start", "steps", "wanted", "barred"] (spPlant K C) := by
  refine F.ok sc_Plant___init__ (fun vs H Q E h => ?_) (fun cdv A outer s H vs Q E hr h => ?_)
  · obtain ⟨p, dx, s, a, b, c, as, ts, wn, br, rfl, _⟩ := h
    rfl
  · obtain ⟨p, dx, s, a, b, c, as, ts, wn, br, rfl, hp, ra, la, rb, rc, gd, k⟩ := h
    refine ⟨_, PSs.nox (pss_cons (ps_if (pt_not (pt_val (pe_cl c_is_state hr (by decide) rfl (pa_cons (pv 1) pa_nil)))) (pss_one ps_never) pss_nil) (pss_cons (ps_expr (pe_cl c_check_steps hr (by decide) rfl (pa_cons (pv 2) pa_nil))) (pss_cons (ps_if (pt_cmpR op_gt (pe_callB call_len_seq (by rfl) T.b_len PySem.boot_len (pa_cons (pe_cl c_words_of hr (by decide) rfl (pa_cons (pv 2) pa_nil)) pa_nil)) (pe_gc rfl T.c_MOST_WORDS) (nomark _)) (pss_one ps_never) pss_nil) (pss_cons (ps_set (i := 5) sc_Plant___init__.nd rfl (Or.inl rfl) (pe_listRg rfl (by rfl) T.b_list (prg_1 (by rfl) T.b_range (pe_callB call_len_seq (by rfl) T.b_len PySem.boot_len (pa_cons (pv 2) pa_nil))))) (pss_cons (ps_expr (pe_cl c_check_marks hr (by decide) rfl (pa_cons (pv 3) (pa_cons (pv 5) pa_nil)))) (pss_cons (ps_expr (pe_cl c_check_marks hr (by decide) rfl (pa_cons (pv 4) (pa_cons (pe_cl c_without hr (by decide) rfl (pa_cons (pv 5) (pa_cons (pv 3) pa_nil))) pa_nil)))) (pss_cons (ps_fld (pv 0) (pv 1) rfl) (pss_cons (ps_fld (pv 0) (pe_callTy call_list_of (by rfl) T.b_list (by decide +kernel) (pa_cons (pv 2) pa_nil)) rfl) (pss_cons (ps_fld (pv 0) (pe_cl c_words_of hr (by decide) rfl (pa_cons (pv 2) pa_nil)) rfl) (pss_cons (ps_fld (pv 0) (pe_callB cr_sortQ (by rfl) T.b_sorted (by decide +kernel) (pa_cons (pv 3) pa_nil)) rfl) (pss_cons (ps_fld (pv 0) (pe_callB cr_sortQ (by rfl) T.b_sorted (by decide +kernel) (pa_cons (pv 4) pa_nil)) rfl) (pss_one (ps_fld (pv 0) (pe_cl c_states_from hr (by decide) rfl (pa_cons (pe_lst (pa_cons (pv 1) pa_nil)) (pa_cons (pv 2) pa_nil))) rfl))))))))))))), ?_⟩
    have wl : wn.length ≤ 60 := Nat.le_trans (ints_few gd.wn1 gd.wn2) gd.n1
    have bl : br.length ≤ 60 := Nat.le_trans (ints_few gd.br1 gd.br2) gd.n1
    have n1 := gd.n1
    refine ⟨_, rfl, .inl ⟨s, rfl, ?_⟩⟩
    rw [st_ok gd.s1]
    refine ⟨true, rfl, iteF ?_⟩
    refine ⟨_, rfl, a, as, ts, rfl, ra, la, gd.st, gd.n0, n1, fun H1 m1 => ?_⟩
    refine ⟨_, rfl, a, as, ts, rfl, ra.sq.same m1, la.same m1, by omega, fun ys q H2 wd wlen m2 hq2 hq => ?_⟩
    refine ⟨q, _, rfl, .inl (SqL.of hq), _, _, rfl, rfl, _, rfl, ?_⟩
    rw [decide_eq_false (by rw [List.length_map]; have := gd.wd ys wd; omega)]
    refine iteF ?_
    have m12 := m1.trans m2
    have al : (as.map V.ref).length = ts.length := by rw [List.length_map, la.len]
    refine ⟨_, rfl, a, _, rfl, ra.sq.same m12, (ts.length : Int), by rw [al], RgOk.of_le (by omega) (by omega) (by omega) (by omega), fun nq hnq => ?_⟩
    rw [rg_ints]
    have m3 := same_new m12 hnq (o := .lst (((List.range ts.length).map fun i : Nat => (i : Int)).map V.int))
    have hN : (L2.upd H2 nq (.lst (((List.range ts.length).map fun i : Nat => (i : Int)).map V.int))) nq = some (.lst (((List.range ts.length).map fun i : Nat => (i : Int)).map V.int)) := upd_same
    generalize L2.upd H2 nq (.lst (((List.range ts.length).map fun i : Nat => (i : Int)).map V.int)) = H3 at m3 hN ⊢
    refine ⟨_, rfl, _, rfl, b, nq, wn, _, rfl, rb.same m3, SqL.of hN, gd.wn1, fun x hx => mem_rg.2 (gd.wn2 x hx), by omega, fun H4 m4 => ?_⟩
    have hN4 := m4 _ _ hN
    refine ⟨_, rfl, _, rfl, _, rfl, nq, b, _, wn, rfl, SqL.of hN4, rb.sq.same (m3.trans m4), by rw [List.length_map, List.length_range]; omega, fun oq H5 m5 ho5 ho => ?_⟩
    have m35 := (m3.trans m4).trans m5
    refine ⟨c, oq, br, _, rfl, rc.same m35, SqL.of ho, gd.br1, fun x hx => List.mem_filter.mpr ⟨mem_rg.2 (gd.br2 x hx), decide_eq_true (gd.br3 x hx)⟩, by omega, fun H6 m6 => ?_⟩
    have m := m35.trans m6
    have p6 := m _ _ hp
    -- the attributes, one by one
    refine ⟨_, rfl, _, rfl, p, C, dx, _, rfl, p6, pc.cl, pc.n1, by show 0 < 1000; decide, ?_⟩
    have b7 : But p H (L2.upd H6 p (.ins C dx (putF "start_state" (.int s) []))) := (But.of m).trans But.upd
    have p7 : (L2.upd H6 p (.ins C dx (putF "start_state" (.int s) []))) p = some (.ins C dx (putF "start_state" (.int s) [])) := upd_same
    generalize L2.upd H6 p (.ins C dx (putF "start_state" (.int s) [])) = H7 at b7 p7 ⊢
    refine ⟨_, rfl, a, _, rfl, sq_but ra.sq b7 hp, fun l1 h1 => ?_⟩
    have z1 : p ≠ l1 := ne_of_none p7 h1
    refine ⟨_, rfl, p, C, dx, _, rfl, by rw [upd_ne z1]; exact p7, pc.cl, pc.n2, Nat.lt_of_le_of_lt (putF_len _ _ _) (by decide), ?_⟩
    obtain ⟨b8, p8, e1, k8, f1⟩ := fld_step (o := .ins C dx (putF "step_list" (.ref l1) (putF "start_state" (.int s) []))) b7 p7 (same_new (Same.refl _) h1) h1 upd_same
    generalize L2.upd (L2.upd H7 l1 (.lst (as.map V.ref))) p (.ins C dx (putF "step_list" (.ref l1) (putF "start_state" (.int s) []))) = H8 at b8 p8 e1 k8 ⊢
    have ls : ∀ {fs : List (PySem.Str × V)} {n : Nat} (f : PySem.Str) (v : V), fs.length ≤ n → (putF f v fs).length ≤ n + 1 := fun f v h => Nat.le_trans (putF_len _ _ _) (Nat.succ_le_succ h)
    have len2 := ls "step_list" (.ref l1) (ls "start_state" (.int s) (Nat.le_refl (List.length ([] : List (PySem.Str × V)))))
    -- the words
    refine ⟨_, rfl, a, as, ts, rfl, sq_but ra.sq b8 hp, la.butp b8 hp, by omega, fun wd l2 H9 wdo wdl m9 h2 e2 => ?_⟩
    refine ⟨_, rfl, p, C, dx, _, rfl, m9 _ _ p8, pc.cl, pc.n3, Nat.lt_of_le_of_lt len2 (by decide), ?_⟩
    obtain ⟨b9, p9, e2, k9, f2⟩ := fld_step (o := .ins C dx (putF "word_list" (.ref l2) (putF "step_list" (.ref l1) (putF "start_state" (.int s) [])))) b8 p8 m9 h2 e2
    generalize L2.upd H9 p (.ins C dx (putF "word_list" (.ref l2) (putF "step_list" (.ref l1) (putF "start_state" (.int s) [])))) = H10 at b9 p9 e2 k9 ⊢
    have len3 := ls "word_list" (.ref l2) len2
    -- the marks
    refine ⟨_, rfl, b, wn, rfl, sq_but rb.sq b9 hp, by omega, fun ws l3 pm3 as3 h3 => ?_⟩
    have z3 : p ≠ l3 := ne_of_none p9 h3
    refine ⟨_, rfl, p, C, dx, _, rfl, by rw [upd_ne z3]; exact p9, pc.cl, pc.n4, Nat.lt_of_le_of_lt len3 (by decide), ?_⟩
    obtain ⟨b10, p10, e3, k10, f3⟩ := fld_step (o := .ins C dx (putF "wanted_list" (.ref l3) (putF "word_list" (.ref l2) (putF "step_list" (.ref l1) (putF "start_state" (.int s) []))))) b9 p9 (same_new (Same.refl _) h3) h3 upd_same
    generalize L2.upd (L2.upd H10 l3 (.lst (ws.map V.int))) p (.ins C dx (putF "wanted_list" (.ref l3) (putF "word_list" (.ref l2) (putF "step_list" (.ref l1) (putF "start_state" (.int s) []))))) = H11 at b10 p10 e3 k10 ⊢
    have len4 := ls "wanted_list" (.ref l3) len3
    refine ⟨_, rfl, c, br, rfl, sq_but rc.sq b10 hp, by omega, fun bs l4 pm4 as4 h4 => ?_⟩
    have z4 : p ≠ l4 := ne_of_none p10 h4
    refine ⟨_, rfl, p, C, dx, _, rfl, by rw [upd_ne z4]; exact p10, pc.cl, pc.n5, Nat.lt_of_le_of_lt len4 (by decide), ?_⟩
    obtain ⟨b11, p11, e4, k11, f4⟩ := fld_step (o := .ins C dx (putF "barred_list" (.ref l4) (putF "wanted_list" (.ref l3) (putF "word_list" (.ref l2) (putF "step_list" (.ref l1) (putF "start_state" (.int s) [])))))) b10 p10 (same_new (Same.refl _) h4) h4 upd_same
    generalize L2.upd (L2.upd H11 l4 (.lst (bs.map V.int))) p (.ins C dx (putF "barred_list" (.ref l4) (putF "wanted_list" (.ref l3) (putF "word_list" (.ref l2) (putF "step_list" (.ref l1) (putF "start_state" (.int s) [])))))) = H12 at b11 p11 e4 k11 ⊢
    have len5 := ls "barred_list" (.ref l4) len4
    -- the states
    refine ⟨_, rfl, (by show 1 ≤ sizeLine; decide), fun lq hlq => ?_⟩
    have m12' : Same H12 (L2.upd H12 lq (.lst [.int s])) := same_new (Same.refl _) hlq
    have e12' : (L2.upd H12 lq (.lst [.int s])) lq = some (.lst (([s] : List Int).map V.int)) := upd_same
    generalize L2.upd H12 lq (.lst [.int s]) = H12' at m12' e12' ⊢
    refine ⟨_, rfl, lq, a, as, ts, [s], s :: ts.map (·.2.2), rfl, e12', (by show 1 ≤ 100; decide), (sq_but ra.sq b11 hp).same m12', (la.butp b11 hp).same m12', n1, by rw [List.length_cons, List.length_map]; omega, fun x hx => by rw [List.mem_singleton.mp hx]; exact List.mem_cons_self,
      fun t m => List.mem_cons_of_mem _ (List.mem_map.mpr ⟨t, m, rfl⟩), fun st l5 H13 sts m13' h5' e5 => ?_⟩
    have m13 := m12'.trans m13'
    have h5 : H12 l5 = none := m12'.free h5'
    have stl : st.length ≤ 61 := Nat.le_trans sts.le (by omega)
    refine ⟨_, rfl, p, C, dx, _, rfl, m13 _ _ p11, pc.cl, pc.n6, Nat.lt_of_le_of_lt len5 (by decide), ?_⟩
    obtain ⟨b12, p12, e5, k12, f5⟩ := fld_step (o := .ins C dx (plF s l1 l2 l3 l4 l5)) b11 p11 m13 h5 e5
    have np : ∀ {l : Addr} {H' : Hp} {xs : List V} {fs : List (PySem.Str × V)}, H' l = some (.lst xs) → H' p = some (.ins C dx fs) → l ≠ p := fun e1 e2 => ne_of e1 e2 fun z => nomatch z
    have q1 := np e1 p8
    have q2 := np e2 p9
    have q3 := np e3 p10
    have q4 := np e4 p11
    refine k ⟨p, dx, l1, l2, l3, l4, l5⟩ ⟨s, ts, wd, ws, bs, st⟩ _ rfl rfl ?_ b12 ⟨p12, ⟨as, ?_, la.butp b12 hp⟩, ?_, ?_, ?_, e5, ?_⟩ ⟨rfl, rfl, wdo, ⟨pm3, as3⟩, ⟨pm4, as4⟩, sts⟩
    · intro l hl
      simp only [PlAt.lists, List.mem_cons, List.not_mem_nil, or_false] at hl
      rcases hl with rfl | rfl | rfl | rfl | rfl <;> assumption
    · exact k12 _ _ (k11 _ _ (k10 _ _ (k9 _ _ e1 q1) q1) q1) q1
    · exact k12 _ _ (k11 _ _ (k10 _ _ e2 q2) q2) q2
    · exact k12 _ _ (k11 _ _ e3 q3) q3
    · exact k12 _ _ e4 q4
    · exact ⟨n1, gd.wd wd wdo, by rw [pm3.length_eq]; exact wl, by rw [pm4.length_eq]; exact bl, stl⟩
end
end Lw

namespace Lw
open PySem PySem.Spec PyProof.Rows L2 Txs
open C8 (pe_gc)
/-! ### what a plant tells -/
def spPlStart (C : Addr) : Sp := fun vs H Q _ => ∃ A d, vs = [.ref A.p] ∧ IsPl C H A d ∧ Q (.int d.start) H
def spPlSteps (C : Addr) : Sp := fun vs H Q _ => ∃ A d, vs = [.ref A.p] ∧ IsPl C H A d ∧ ∀ as q, Laid H as d.steps → H q = none → Q (.ref q) (upd H q (.lst (as.map V.ref)))
def spPl_words (C : Addr) : Sp := fun vs H Q _ => ∃ A d, vs = [.ref A.p] ∧ IsPl C H A d ∧ ∀ q, H q = none → Q (.ref q) (upd H q (.lst (d.words.map V.str)))
def spPl_wanted (C : Addr) : Sp := fun vs H Q _ => ∃ A d, vs = [.ref A.p] ∧ IsPl C H A d ∧ ∀ q, H q = none → Q (.ref q) (upd H q (.lst (d.wanted.map V.int)))
def spPl_barred (C : Addr) : Sp := fun vs H Q _ => ∃ A d, vs = [.ref A.p] ∧ IsPl C H A d ∧ ∀ q, H q = none → Q (.ref q) (upd H q (.lst (d.barred.map V.int)))
def spPl_states (C : Addr) : Sp := fun vs H Q _ => ∃ A d, vs = [.ref A.p] ∧ IsPl C H A d ∧ ∀ q, H q = none → Q (.ref q) (upd H q (.lst (d.states.map V.int)))
section
variable {P : Program} {w : World} {K : PySem.W.Frag} {mg : PySem.Str → Option Value} {base : Heap} {C : Addr}
theorem ok_pl_start (pc : PlC K C) {f : Addr} {fd : FuncData} (F : FunD K "start" "Plant.start" (defArgs s_Plant_start) (defBody s_Plant_start) (defScope s_Plant_start) [] [] f fd) : FnOk P w K mg base CX0 1 f fd ["self"] (spPlStart C) := by
  refine F.ok sc_Plant_start (fun vs H Q E h => ?_) (fun cdv A outer s H vs Q E hr h => ?_)
  · obtain ⟨A, d, rfl, _⟩ := h
    rfl
  · obtain ⟨A, d, rfl, i, q⟩ := h
    refine ⟨_, PSs.nox (pss_one (ps_ret (pe_fld (pv 0) rfl))), ?_⟩
    exact ⟨_, rfl, A.p, C, A.dx, _, _, rfl, i.ins, pc.cl, pc.n1, plF_start _ _ _ _ _ _, q⟩
theorem ok_pl_steps (T : Bt mg) (pc : PlC K C) {f : Addr} {fd : FuncData} (F : FunD K "steps" "Plant.steps" (defArgs s_Plant_steps) (defBody s_Plant_steps) (defScope s_Plant_steps) [] [] f fd) : FnOk P w K mg base CX0 1 f fd ["self"] (spPlSteps C) := by
  refine F.ok sc_Plant_steps (fun vs H Q E h => ?_) (fun cdv A outer s H vs Q E hr h => ?_)
  · obtain ⟨A, d, rfl, _⟩ := h
    rfl
  · obtain ⟨A, d, rfl, i, q⟩ := h
    obtain ⟨as, e, l⟩ := i.steps
    refine ⟨_, PSs.nox (pss_one (ps_ret (pe_callTy call_list_of (by rfl) T.b_list (by decide +kernel) (pa_cons (pe_fld (pv 0) rfl) pa_nil)))), ?_⟩
    exact ⟨_, rfl, A.p, C, A.dx, _, _, rfl, i.ins, pc.cl, pc.n2, plF_steps _ _ _ _ _ _, A.l1, _, rfl, .inl (SqL.of e), fun x hx => q as x l hx⟩
theorem ok_pl_wanted (T : Bt mg) (pc : PlC K C) {f : Addr} {fd : FuncData} (F : FunD K "wanted" "Plant.wanted" (defArgs s_Plant_wanted) (defBody s_Plant_wanted) (defScope s_Plant_wanted) [] [] f fd) : FnOk P w K mg base CX0 1 f fd ["self"] (spPl_wanted C) := by
  refine F.ok sc_Plant_wanted (fun vs H Q E h => ?_) (fun cdv A outer s H vs Q E hr h => ?_)
  · obtain ⟨A, d, rfl, _⟩ := h
    rfl
  · obtain ⟨A, d, rfl, i, q⟩ := h
    refine ⟨_, PSs.nox (pss_one (ps_ret (pe_callTy call_list_of (by rfl) T.b_list (by decide +kernel) (pa_cons (pe_fld (pv 0) rfl) pa_nil)))), ?_⟩
    exact ⟨_, rfl, A.p, C, A.dx, _, _, rfl, i.ins, pc.cl, (by first | exact pc.n3 | exact pc.n4 | exact pc.n5 | exact pc.n6), plF_wanted _ _ _ _ _ _, _, _, rfl, .inl (SqL.of i.wanted), fun x hx => q x hx⟩
end
end Lw

namespace Lw
open PySem PySem.Spec PyProof.Rows L2 Txs
open C8 (pe_gc)
/-! ### the law's own questions -/
theorem dp_ints {K : PySem.W.Frag} {H : Hp} : ∀ ns : List Int, DpAll K H (ns.map V.int) (ns.map PyData.int)
  | [] => .nil
  | n :: ns => .cons (.int n) (dp_ints ns)
theorem dp_strs {K : PySem.W.Frag} {H : Hp} : ∀ ws : List PySem.Str, DpAll K H (ws.map V.str) (ws.map PyData.str)
  | [] => .nil
  | w :: ws => .cons (.str w) (dp_strs ws)
theorem ints_lay : ∀ ns : List Int, PyData.canLayAll0 (ns.map PyData.int) = true
  | [] => by simp [PyData.canLayAll0]
  | n :: ns => by simp [PyData.canLayAll0, PyData.canLay0, ints_lay ns]
theorem ints_depth : ∀ ns : List Int, PyData.depthAll (ns.map PyData.int) ≤ 1
  | [] => by simp [PyData.depthAll]
  | n :: ns => by
    have := ints_depth ns
    simp only [List.map_cons, PyData.depthAll, PyData.depth]
    omega
theorem strs_lay : ∀ {ws : List PySem.Str}, (∀ w ∈ ws, PyData.strOk w = true) → PyData.canLayAll0 (ws.map PyData.str) = true
  | [], _ => by simp [PyData.canLayAll0]
  | w :: ws, h => by simp [PyData.canLayAll0, PyData.canLay0, h w List.mem_cons_self, strs_lay fun u hu => h u (List.mem_cons_of_mem _ hu)]
theorem strs_depth : ∀ ws : List PySem.Str, PyData.depthAll (ws.map PyData.str) ≤ 1
  | [] => by simp [PyData.depthAll]
  | w :: ws => by
    have := strs_depth ws
    simp only [List.map_cons, PyData.depthAll, PyData.depth]
    omega
theorem lst_shaped {ds : List PyData} (h : PyData.canLayAll0 ds = true) (k : PyData.depthAll ds ≤ 1) : SeqAt.shaped (.list ds) = true := by
  have h2 : PyData.depth (.list ds) ≤ 64 := by simp only [PyData.depth]; omega
  show ((PyData.list ds).canLay0 && decide ((PyData.list ds).depth ≤ 64)) = true
  rw [decide_eq_true h2, Bool.and_true]
  simp only [PyData.canLay0]
  exact h
theorem ints_shaped (ns : List Int) : SeqAt.shaped (.list (ns.map PyData.int)) = true := lst_shaped (ints_lay ns) (ints_depth ns)
theorem strs_shaped {ws : List PySem.Str} (h : ∀ w ∈ ws, PyData.strOk w = true) : SeqAt.shaped (.list (ws.map PyData.str)) = true := lst_shaped (strs_lay h) (strs_depth ws)
theorem eqv_same {d : PyData} (h : SeqAt.shaped d = true) : PyData.eqv d d = true := SeqAt.eqv_refl d (Bool.and_eq_true_iff.mp h).1
theorem bools_all (n : Nat) : (List.replicate n true).all id = true := by
  rw [List.all_eq_true]
  intro b hb
  rw [(List.mem_replicate.mp hb).2]
  rfl
def spIntegers : Sp := fun vs H Q _ => ∃ (a b : Addr) (ns : List Int), vs = [.ref a, .ref b] ∧ H a = some (.lst (ns.map V.int)) ∧ H b = some (.lst (ns.map V.int)) ∧ ns.length ≤ 100 ∧ ∀ H', Same H H' → Q (.bl true) H'
def spSameSteps : Sp := fun vs H Q _ => ∃ (a b : Addr) (as bs : List Addr) (ts : List Tr), vs = [.ref a, .ref b] ∧ H a = some (.lst (as.map V.ref)) ∧ H b = some (.lst (bs.map V.ref)) ∧ Laid H as ts ∧ Laid H bs ts ∧ (∀ t ∈ ts, PyData.strOk t.2.1 = true) ∧ ∀ H', Same H H' → Q (.bl true) H'
section
variable {P : Program} {w : World} {K : PySem.W.Frag} {mg : PySem.Str → Option Value} {base : Heap}
theorem ok_integers (T : Bt mg) (c_law_is_integer : Cl P w K mg base 1 "_law_is_integer" (spIsInt K) []) {f : Addr} {fd : FuncData} (F : FunD K "_law_integers" "_law_integers" (defArgs s_law_integers) (defBody s_law_integers) (defScope s_law_integers) [] [] f fd) : FnOk P w K mg base CX0 2 f fd ["_law_told", "_law_due_here"] spIntegers := by
  refine F.ok sc_law_integers (fun vs H Q E h => ?_) (fun cdv A outer s H vs Q E hr h => ?_)
  · obtain ⟨a, b, ns, rfl, _⟩ := h
    rfl
  · obtain ⟨a, b, ns, rfl, ha, hb, n100, k⟩ := h
    have hu64 := hu64_of hr
    refine ⟨_, PSs.nox (pss_cons (ps_if (PW.pt (pw_or (pt_not (pt_val (pe_callB call_isi (by rfl) T.b_isinstance (by decide +kernel) (pa_cons (pv 0) (pa_cons (pe_bltn (v := .ty "list") (by rfl) T.b_list (by decide +kernel) rfl) pa_nil))))) (pw_or1 (pt_cmpR (op_neD hu64) (pv 0) (pv 1) (nomark _))))) (pss_one (ps_ret pe_bl)) pss_nil) (pss_one (ps_ret (pe_callB (cr_all rfl) (by rfl) T.b_all (by decide +kernel) (pa_cons (pe_lc (own := [("_law_item", 2)]) (tt := tYes) rfl sc_law_integers.nd (pi_list (pv 0)) (blkOk_by (N := N_law_integers) (sc := defScope s_law_integers) (by decide +kernel)) (fun _ _ _ _ _ => (pg_name (i := 2) sc_law_integers.nd rfl (Or.inl rfl))) (fun _ _ _ _ _ => pts_nil) (fun _ _ _ _ _ => (pe_cl c_law_is_integer hr (by decide) rfl (pa_cons (pv 2) pa_nil)))) pa_nil))))), ?_⟩
    refine ⟨_, rfl, _, _, _, _, true, rfl, .ty _, .base (.lst ha), kit_ty (by decide +kernel), true, rfl, iteF ?_⟩
    refine ⟨_, rfl, _, rfl, _, _, .lst (SqL.of ha) (dp_ints ns), .lst (SqL.of hb) (dp_ints ns), ints_shaped ns, ints_shaped ns, _, rfl, ?_⟩
    rw [eqv_same (ints_shaped ns)]
    refine iteF ?_
    refine ⟨_, rfl, a, rfl, ⟨_, SqL.of ha⟩, fun D hD => lc_list (K := K) (xs := ns.map V.int) (fun i H' => Same H H' ∧ H' D = some (.lst ((List.replicate i true).map V.bl))) ?_ ?_ ?_ ?_⟩
    · exact ⟨same_new (Same.refl _) hD, upd_same⟩
    · exact fun i H' _ ⟨sm, _⟩ => sm.seq (SqL.of ha)
    · rintro i x H1 hx ⟨sm, hl⟩
      obtain ⟨n, hn, rfl⟩ := int_at' hx
      have il : i < ns.length := (List.getElem?_eq_some_iff.mp hn).1
      refine ⟨rfl, _, rfl, _, _, true, false, rfl, .base (.int n), kit_ty (by decide +kernel), fun _ => kit_ty (by decide +kernel), ?_⟩
      refine ⟨_, hl, by rw [List.length_map, List.length_replicate]; exact small1000 (by omega), same_put sm hD, ?_⟩
      rw [upd_same, List.replicate_succ', List.map_append]
      rfl
    · rintro H1 ⟨sm, hl⟩
      refine ⟨D, _, rfl, SqL.of hl, ?_⟩
      rw [bools_all]
      exact k H1 sm
theorem cl_integers (T : Bt mg) (c_law_is_integer : Cl P w K mg base 1 "_law_is_integer" (spIsInt K) []) (a : At K mg "_law_integers" s_law_integers) : Cl P w K mg base 2 "_law_integers" spIntegers [] := a.cal (ps := ["_law_told", "_law_due_here"]) (fun _ _ F => ok_integers T c_law_is_integer F) (fun _ _ _ _ _ _ us hl => match us, hl with | [_, _], _ => rfl)
end
end Lw

namespace Lw
open PySem PySem.Spec PyProof.Rows L2 Txs
open C8 (pe_gc)
/-! ### == by a class's own -/
/-- a class, read by its name -/
theorem pe_gref {X : Cx} {x : PySem.Str} {a : Addr} {pos : Pos} (hg : Gl X x) (hm : X.mg x = some (.ref a)) (hd : (x == ("__debug__" : PySem.Str)) = false := by decide) : PE X (.Name x pos) (tC (.ref a)) := pe_glob hg hm rfl hd
structure Oq (P : Program) (w : World) (K : PySem.W.Frag) (mg : PySem.Str → Option Value) (base : Heap) (k : Nat) (C : Addr) (sp : Sp) : Prop where
  ex : ∃ f fd ps, FnOk P w K mg base CX0 k f fd ps sp ∧ Binds K fd ps [] ∧ Cmps.Own K C f
section
variable {X : Cx} {k j : Nat} {C : Addr} {sp : Sp}
theorem op_oq (o : Oq X.prog X.w X.K X.mg X.base k C sp) (hr : Room j X.A) (hk : k ≤ j) : OpR X (compareOp .Eq) (Cmps.rEqI X.K C sp false) :=
  let ⟨_, _, _, F, b, O⟩ := o.ex
  Cmps.op_eqI F b O (hr.mono hk)
theorem op_on (o : Oq X.prog X.w X.K X.mg X.base k C sp) (hr : Room j X.A) (hk : k + 1 ≤ j) : OpR X (compareOp .NotEq) (Cmps.rEqI X.K C sp true) :=
  let ⟨_, _, _, F, b, O⟩ := o.ex
  Cmps.op_neI F b O (hr.mono hk)
end
section
variable {X : Cx} {k k2 j : Nat} {C C2 : Addr} {sp sp2 : Sp} {x : PySem.Str} {dvs : List V} {p pos : Pos}
/-- x == y, y an instance of C, x a built-in value or an instance of C2 -/
theorem op_l (o : Oq X.prog X.w X.K X.mg X.base k C sp) (o2 : Oq X.prog X.w X.K X.mg X.base k2 C2 sp2) (hr : Room j X.A) (hk : k ≤ j) (hk2 : k2 ≤ j) : OpR X (compareOp .Eq) (fun x y H Q => Cmps.rEqL X.K C sp x y H Q ∨ Cmps.rEqI X.K C2 sp2 false x y H Q) :=
  let ⟨_, _, _, F, b, O⟩ := o.ex
  Cmps.OpR.or (Cmps.op_eqL F b O (hr.mono hk)) (op_oq o2 hr hk2)
theorem pe_mr0 (c : Mr X.prog X.w X.K X.mg X.base k x C sp dvs) (hr : Room j X.A) (hk : k + 1 ≤ j) (hg : Gl X x) (h1 : (x == ("__debug__" : PySem.Str)) = false := by decide) : PE X (.Call (.Name x p) [] [] pos) (tMake C sp dvs E0 tNil) :=
  let ⟨_, _, _, _, M, F, hm, b, d⟩ := c.ex
  pe_make0 M F (hr.mono hk) hg hm b d pass0 h1
end
def kinds7 : List String := ["NoneType", "bool", "int", "str", "list", "tuple", "dict"]
/-- a class, as comparisons ask of it -/
def biB (K : PySem.W.Frag) (C : Addr) : Bool := (kinds7.all fun T => PySem.W.notFirst K C (.type T) && (decide (PySem.W.kitOne K (.type T) (.ref C) = some false) && decide (PySem.W.subIn K (.ref C) (.type T) = some false))) &&
  (He.eqO (PySem.W.findIn K (.ref C) "__class__") (some (some (.builtin "object.__class__"))) && (He.eqO (PySem.W.specialIn K (.builtin "object.__class__") "__get__") (some (some (.builtin "getset_descriptor.__get__"))) &&
  (decide (PySem.W.takesIn K (.builtin "object.__class__") = some true) && decide (PySem.W.mroIn K C (.type "object") = some true))))
structure Bi (K : PySem.W.Frag) (C : Addr) : Prop where
  nf : ∀ T ∈ kinds7, PySem.W.notFirst K C (.type T) = true
  kt : ∀ T ∈ kinds7, PySem.W.kitOne K (.type T) (.ref C) = some false
  nb : ∀ T ∈ kinds7, PySem.W.subIn K (.ref C) (.type T) = some false
  ty : ∀ {H : Hp} {a dx : Addr} {fs : List (PySem.Str × V)}, Cls K C → H a = some (.ins C dx fs) → TyX K H (.ref a) (.ref C)
theorem bi_ok {K : PySem.W.Frag} {C : Addr} (h : biB K C = true) : Bi K C := by
  obtain ⟨h1, h2⟩ := He.ba h
  obtain ⟨h3, h4⟩ := He.ba h2
  obtain ⟨h5, h6⟩ := He.ba h4
  obtain ⟨h7, h8⟩ := He.ba h6
  have h1 := List.all_eq_true.mp h1
  exact ⟨fun T hT => (He.ba (h1 T hT)).1, fun T hT => of_decide_eq_true (He.ba (He.ba (h1 T hT)).2).1, fun T hT => of_decide_eq_true (He.ba (He.ba (h1 T hT)).2).2, fun cl e => .base (.ins e cl (He.eqO_ok h3) (He.eqO_ok h5) (of_decide_eq_true h7) (of_decide_eq_true h8))⟩
def ownB (K : PySem.W.Frag) (C : Addr) : Bool := He.eqO (PySem.W.findIn K (.ref C) "__eq__") (some (some (.ref (He.ma K C "__eq__")))) && (PySem.W.isFn K (.ref (He.ma K C "__eq__")) && (He.eqO (PySem.W.findIn K (.ref C) "__ne__") (some (some (.builtin "object.__ne__"))) && decide (PySem.W.subIn K (.ref C) (.type "object") = some true)))
theorem own_ok {K : PySem.W.Frag} {C : Addr} (h : ownB K C = true) : Cmps.Own K C (He.ma K C "__eq__") := by
  obtain ⟨h1, h2⟩ := He.ba h
  obtain ⟨h3, h4⟩ := He.ba h2
  obtain ⟨h5, h6⟩ := He.ba h4
  exact ⟨He.eqO_ok h1, h3, He.eqO_ok h5, of_decide_eq_true h6⟩
theorem eqv_ints : ∀ ts us : List Int, PyData.eqvAll (ts.map PyData.int) (us.map PyData.int) = decide (ts = us)
  | [], [] => by simp [PyData.eqvAll]
  | [], u :: us => by simp [PyData.eqvAll]
  | t :: ts, [] => by simp [PyData.eqvAll]
  | t :: ts, u :: us => by
    have e : PyData.eqv (.int t) (.int u) = (t == u) := by simp only [PyData.eqv]
    simp only [List.map_cons, PyData.eqvAll, e, eqv_ints ts us]
    rw [Bool.beq_eq_decide_eq, ← Bool.decide_and]
    exact decide_eq_decide.mpr (by simp)
theorem eqv_intsL (ts us : List Int) : PyData.eqv (.list (ts.map PyData.int)) (.list (us.map PyData.int)) = decide (ts = us) := by simp only [PyData.eqv]; exact eqv_ints ts us
/-- a view's own == with what is no view -/
def spVwNo (K : PySem.W.Frag) (C : Addr) : Sp := fun vs H Q _ => ∃ p y t, vs = [.ref p, y] ∧ TyX K H y t ∧ PySem.W.kitOne K t (.ref C) = some false ∧ Q (.bl false) H
def spFlag : Sp := fun vs H Q _ => ∃ b, vs = [.bl b, .bl b] ∧ Q (.bl true) H
section
variable {P : Program} {w : World} {K : PySem.W.Frag} {mg : PySem.Str → Option Value} {base : Heap} {C : Addr}
theorem ok_vw_no (T : Bt mg) (g_View : mg "View" = some (.ref C)) {f : Addr} {fd : FuncData} (F : FunD K "__eq__" "View.__eq__" (defArgs s_View___eq__) (defBody s_View___eq__) (defScope s_View___eq__) [] [] f fd) : FnOk P w K mg base CX0 1 f fd ["self", "other"] (spVwNo K C) := by
  refine F.ok sc_View___eq__ (fun vs H Q E h => ?_) (fun cdv A0 outer s H vs Q E hr h => ?_)
  · obtain ⟨p, y, t, rfl, _⟩ := h
    rfl
  · have hu64 := hu64_of hr
    have hu := hu_of hr
    refine ⟨_, PSs.nox (pss_one (ps_ret (pe_and (pe_callB call_isi (by rfl) T.b_isinstance (by decide +kernel) (pa_cons (pv 1) (pa_cons (pe_gref rfl g_View) pa_nil))) (pe_and (pe_cmpR (op_eq_dictA hr.units0) (pe_fld (pv 0) rfl) (pe_fld (pv 1) rfl) (nomark _)) (pe_one (pe_cmpR (op_eqD hu64) (pe_fld (pv 0) rfl) (pe_fld (pv 1) rfl) (nomark _))))))), ?_⟩
    obtain ⟨p, y, t, rfl, ty, kt, q⟩ := h
    exact ⟨_, rfl, _, _, _, _, false, rfl, .own _, ty, kt, false, rfl, q⟩
end
end Lw

namespace Lw
open PySem PySem.Spec PyProof.Rows L2 Txs
open C8 (pe_gc)
/-! ### views -/
def sgV (es : List (PySem.Str × PySem.Str)) : List (Key × V) := es.map fun e => (.inr e.1, .str e.2)
structure VwC (K : PySem.W.Frag) (C : Addr) : Prop where
  cl : Cls K C
  n1 : NoAttr K C "sight_table"
  n2 : NoAttr K C "hold_list"
structure Vw where
  sights : List (PySem.Str × PySem.Str)
  holds : List PySem.Str
structure VwAt where
  p : Addr
  dx : Addr
  l1 : Addr
  l2 : Addr
def VwAt.lists (A : VwAt) : List Addr := [A.l1, A.l2]
def vwF (l1 l2 : Addr) : List (PySem.Str × V) := putF "hold_list" (.ref l2) (putF "sight_table" (.ref l1) [])
theorem vwF_sights (l1 l2 : Addr) : (vwF l1 l2).lookup ("sight_table" : PySem.Str) = some (.ref l1) := by
  unfold vwF
  rw [lookup_putF, if_neg (by decide +kernel), lookup_putF, if_pos rfl]
theorem vwF_holds (l1 l2 : Addr) : (vwF l1 l2).lookup ("hold_list" : PySem.Str) = some (.ref l2) := by
  unfold vwF
  rw [lookup_putF, if_pos rfl]
structure IsVw (C : Addr) (H : Hp) (A : VwAt) (d : Vw) : Prop where
  ins : H A.p = some (.ins C A.dx (vwF A.l1 A.l2))
  sights : H A.l1 = some (.dK (sgV d.sights))
  holds : H A.l2 = some (.lst (d.holds.map V.str))
  nd : (d.sights.map (·.1)).Nodup
  ok : ∀ e ∈ d.sights, Nm e.1 ∧ Nm e.2
  hk : ∀ h ∈ d.holds, Nm h
  asc : Asc d.holds
  small : d.sights.length ≤ 100 ∧ d.holds.length ≤ 60
theorem IsVw.same {C : Addr} {H H' : Hp} {A : VwAt} {d : Vw} (h : IsVw C H A d) (k : Same H H') : IsVw C H' A d :=
  ⟨k _ _ h.ins, k _ _ h.sights, k _ _ h.holds, h.nd, h.ok, h.hk, h.asc, h.small⟩
def spCheckSights (K : PySem.W.Frag) : Sp := fun vs H Q _ => ∃ a es, vs = [.ref a] ∧ H a = some (.dK (sgV es)) ∧ (∀ e ∈ es, Nm e.1 ∧ Nm e.2) ∧ ∀ H', Same H H' → Q .non H'
def spCheckWords (K : PySem.W.Frag) : Sp := fun vs H Q _ => ∃ (a : Addr) (hs : List PySem.Str), vs = [.ref a] ∧ RowAt K H a (hs.map V.str) ∧ (∀ h ∈ hs, Nm h) ∧ ∀ H', Same H H' → Q .non H'
def spView (K : PySem.W.Frag) (C : Addr) : Sp := fun vs H Q _ => ∃ (p dx : Addr) (sv : V) (b : Addr) (es : List (PySem.Str × PySem.Str)) (hs : List PySem.Str), vs = [.ref p, sv, .ref b] ∧ H p = some (.ins C dx []) ∧
  ((sv = .non ∧ es = []) ∨ ∃ a, sv = .ref a ∧ H a = some (.dK (sgV es))) ∧ (es.map (·.1)).Nodup ∧ (∀ e ∈ es, Nm e.1 ∧ Nm e.2) ∧ es.length ≤ 100 ∧ RowAt K H b (hs.map V.str) ∧ (∀ h ∈ hs, Nm h) ∧ hs.length ≤ 60 ∧
  ∀ (A : VwAt) (d : Vw) H', A.p = p → A.dx = dx → (∀ l ∈ A.lists, H l = none) → But p H H' → IsVw C H' A d → d.sights = es → (∀ x, x ∈ d.holds ↔ x ∈ hs) → Q .non H'
theorem same_unlock {a : Addr} {H H' : Hp} {u o : HO} (h : H a = some u) (k : But a (L2.upd H a o) H') : Same H (L2.upd H' a u) := fun b x e => by
  by_cases n : b = a
  · subst n
    rw [h] at e
    rw [upd_same]; exact e
  · rw [upd_ne n]
    exact k b x (by rw [upd_ne n]; exact e) n
theorem nm_size {x : PySem.Str} (h : Nm x) : x.length ≤ sizeLine := Nat.le_trans h.2.1 (by decide)
section
variable {P : Program} {w : World} {K : PySem.W.Frag} {mg : PySem.Str → Option Value} {base : Heap} {C : Addr}
theorem ok_check_sights (T : Bt mg) (c_is_name : Cl P w K mg base 1 "is_name" (spIsName K) []) {f : Addr} {fd : FuncData} (F : FunD K "check_sights" "check_sights" (defArgs s_check_sights) (defBody s_check_sights) (defScope s_check_sights) [] [] f fd) : FnOk P w K mg base CX0 2 f fd ["sights"] (spCheckSights K) := by
  refine F.ok sc_check_sights (fun vs H Q E h => ?_) (fun cdv A outer s H vs Q E hr h => ?_)
  · obtain ⟨a, es, rfl, _⟩ := h
    rfl
  · obtain ⟨a, es, rfl, ha, ok, k⟩ := h
    refine ⟨_, PSs.nox (pss_cons (ps_if (pt_not (pt_val (pe_callB call_isi (by rfl) T.b_isinstance (by decide +kernel) (pa_cons (pv 0) (pa_cons (pe_bltn (v := .ty "dict") (by rfl) T.b_dict (by decide +kernel) rfl) pa_nil))))) (pss_one ps_never) pss_nil) (pss_one (ps_lock (ps_for PassesOwn.never rfl (pi_items (pv 0)) (pg_tup rfl (pgs_cons (pg_name (i := 1) sc_check_sights.nd rfl (Or.inl rfl)) (pgs_cons (pg_name (i := 2) sc_check_sights.nd rfl (Or.inl rfl)) pgs_nil))) (pss_one (ps_if (PW.pt (pw_or (pt_not (pt_val (pe_cl c_is_name hr (by decide) rfl (pa_cons (pv 1) pa_nil)))) (pw_or1 (pt_not (pt_val (pe_cl c_is_name hr (by decide) rfl (pa_cons (pv 2) pa_nil))))))) (pss_one ps_never) pss_nil)))))), ?_⟩
    refine ⟨_, rfl, _, _, _, _, true, rfl, .ty _, .base (.dK ha), kit_ty (by decide +kernel), true, rfl, iteF ?_⟩
    refine ⟨a, _, ha, trivial, fun od => ?_⟩
    refine ⟨_, rfl, a, od, _, rfl, upd_same, for_it walk_items (fun i σ H' => ∃ v1 v2 : Option V, σ = [some (.ref a), v1, v2] ∧ But a (L2.upd H a (.frz od (.dK (sgV es)))) H' ∧ H' a = some (.frz od (.dK (sgV es)))) ?_ ?_ ?_ ?_⟩
    · exact ⟨_, _, rfl, But.refl, upd_same⟩
    · rintro i σ H' _ ⟨_, _, _, _, e⟩
      exact e
    · rintro i x σ H1 H2 hi ⟨v1, v2, rfl, b, e⟩ ⟨Tp, x1, y1, rfl, hT, rfl, hx, hy⟩
      replace hx : ((es.map fun e => ((Sum.inr e.1 : Key), V.str e.2))[i]?.map fun kv => kV kv.1) = some x1 := hx
      replace hy : ((es.map fun e => ((Sum.inr e.1 : Key), V.str e.2))[i]?.map Prod.snd) = some y1 := hy
      rw [List.getElem?_map] at hx hy
      obtain ⟨z, hz⟩ : ∃ z, es[i]? = some z := by
        cases q : es[i]? with
        | none => rw [q] at hx; cases hx
        | some z => exact ⟨z, rfl⟩
      rw [hz] at hx hy
      have hx : V.str z.1 = x1 := Option.some.inj hx
      have hy : V.str z.2 = y1 := Option.some.inj hy
      subst hx hy
      obtain ⟨o1, o2⟩ := ok z (List.mem_of_getElem? hz)
      have nT : a ≠ Tp := ne_of_none e hT
      refine ⟨Tp, _, rfl, SqT.of upd_same, rfl, _, _, rfl, _, _, rfl, rfl, ?_⟩
      refine ⟨_, rfl, .inl ⟨z.1, rfl, nm_size o1, ?_⟩⟩
      rw [nmB_iff.2 o1]
      refine ⟨true, rfl, iteF ?_⟩
      refine ⟨_, rfl, .inl ⟨z.2, rfl, nm_size o2, ?_⟩⟩
      rw [nmB_iff.2 o2]
      refine ⟨true, rfl, iteF ?_⟩
      exact ⟨_, _, rfl, b.new hT, by rw [upd_ne nT]; exact e⟩
    · rintro σ H1 ⟨v1, v2, rfl, b, e⟩
      exact ⟨e, k _ (same_unlock ha b)⟩
theorem cl_check_sights (T : Bt mg) (c_is_name : Cl P w K mg base 1 "is_name" (spIsName K) []) (a : At K mg "check_sights" s_check_sights) : Cl P w K mg base 2 "check_sights" (spCheckSights K) [] := a.cal (ps := ["sights"]) (fun _ _ F => ok_check_sights T c_is_name F) (fun _ _ _ _ _ _ us hl => match us, hl with | [_], _ => rfl)
theorem ok_check_words (T : Bt mg) (c_is_row : Cl P w K mg base 1 "is_row" (spIsRow K) []) (c_is_name : Cl P w K mg base 1 "is_name" (spIsName K) []) {f : Addr} {fd : FuncData} (F : FunD K "check_words" "check_words" (defArgs s_check_words) (defBody s_check_words) (defScope s_check_words) [] [] f fd) : FnOk P w K mg base CX0 2 f fd ["words"] (spCheckWords K) := by
  refine F.ok sc_check_words (fun vs H Q E h => ?_) (fun cdv A outer s H vs Q E hr h => ?_)
  · obtain ⟨a, hs, rfl, _⟩ := h
    rfl
  · obtain ⟨a, hs, rfl, row, ok, k⟩ := h
    refine ⟨_, PSs.nox (pss_cons (ps_if (pt_not (pt_val (pe_cl c_is_row hr (by decide) rfl (pa_cons (pv 0) pa_nil)))) (pss_one ps_never) pss_nil) (pss_one (ps_for PassesOwn.never rfl (pi_seq (pv 0)) (pg_name (i := 1) sc_check_words.nd rfl (Or.inl rfl)) (pss_one (ps_if (pt_not (pt_val (pe_cl c_is_name hr (by decide) rfl (pa_cons (pv 1) pa_nil)))) (pss_one ps_never) pss_nil))))), ?_⟩
    obtain ⟨t, ty, kt⟩ := row.ty
    refine ⟨_, rfl, _, t, true, rfl, ty, kt, fun H1 sm1 => ⟨true, rfl, iteF ?_⟩⟩
    refine ⟨_, rfl, a, rfl, for_seq (K := K) (xs := hs.map V.str) row.sq (fun i σ H' => ∃ v1 : Option V, σ = [some (.ref a), v1] ∧ Same H H') ?_ ?_ ?_ ?_⟩
    · exact ⟨_, rfl, sm1⟩
    · rintro i σ' H' _ ⟨_, _, sm⟩ o e
      exact sm _ _ e
    · rintro i x σ H2 hx ⟨v1, rfl, sm⟩
      rw [List.getElem?_map] at hx
      obtain ⟨z, hz, rfl⟩ := Option.map_eq_some_iff.mp hx
      have o1 := ok z (List.mem_of_getElem? hz)
      refine ⟨_, rfl, .inl ⟨z, rfl, nm_size o1, ?_⟩⟩
      rw [nmB_iff.2 o1]
      exact ⟨true, rfl, iteF ⟨_, rfl, sm⟩⟩
    · rintro σ H2 ⟨v1, rfl, sm⟩
      exact k H2 sm
theorem cl_check_words (T : Bt mg) (c_is_row : Cl P w K mg base 1 "is_row" (spIsRow K) []) (c_is_name : Cl P w K mg base 1 "is_name" (spIsName K) []) (a : At K mg "check_words" s_check_words) : Cl P w K mg base 2 "check_words" (spCheckWords K) [] := a.cal (ps := ["words"]) (fun _ _ F => ok_check_words T c_is_row c_is_name F) (fun _ _ _ _ _ _ us hl => match us, hl with | [_], _ => rfl)
theorem ok_view (T : Bt mg) (vc : VwC K C) (c_check_sights : Cl P w K mg base 2 "check_sights" (spCheckSights K) []) (c_check_words : Cl P w K mg base 2 "check_words" (spCheckWords K) []) {f : Addr} {fd : FuncData} {dvs : List V}
    (F : FunD K "__init__" "View.__init__" (defArgs s_View___init__) (defBody s_View___init__) (defScope s_View___init__) dvs [] f fd) : FnOk P w K mg base CX0 3 f fd ["self", "sights", "holds"] (spView K C) := by
  refine F.ok sc_View___init__ (fun vs H Q E h => ?_) (fun cdv A outer s H vs Q E hr h => ?_)
  · obtain ⟨p, dx, sv, b, es, hs, rfl, _⟩ := h
    rfl
  · obtain ⟨p, dx, sv, b, es, hs, rfl, hp, hsv, nd, ok, e100, rb, okh, h60, k⟩ := h
    refine ⟨_, PSs.nox (Evl.pss_cut (ps_if (pt_cmpR op_isN (pv 1) pe_non (nomark _)) (pss_one (ps_set (i := 1) sc_View___init__.nd rfl (Or.inl rfl) pe_dnewK)) pss_nil) (pss_cons (ps_expr (pe_cl c_check_sights hr (by decide) rfl (pa_cons (pv 1) pa_nil))) (pss_cons (ps_expr (pe_cl c_check_words hr (by decide) rfl (pa_cons (pv 2) pa_nil))) (pss_cons (ps_fld (pv 0) (pe_callTy call_dictD (by rfl) T.b_dict (by decide +kernel) (pa_cons (pv 1) pa_nil)) rfl) (pss_one (ps_fld (pv 0) (pe_callB (cr_sortedX rfl) (by rfl) T.b_sorted (by decide +kernel) (pa_cons (pe_callTy (cr_setL rfl) (by rfl) T.b_set (by decide +kernel) (pa_cons (pv 2) pa_nil)) pa_nil)) rfl)))))), ?_⟩
    refine ⟨fun σ' H' => ∃ a, σ' = [some (.ref p), some (.ref a), some (.ref b)] ∧ Same H H' ∧ H' a = some (.dK (sgV es)), ?_, ?_⟩
    · rcases hsv with ⟨rfl, rfl⟩ | ⟨a, rfl, ha⟩
      · refine ⟨_, rfl, rfl, _, rfl, ?_⟩
        refine iteT (fun a ha => ?_)
        exact ⟨a, rfl, same_new (Same.refl _) ha, upd_same⟩
      · refine ⟨_, rfl, rfl, _, rfl, ?_⟩
        exact iteF ⟨a, rfl, Same.refl _, ha⟩
    · rintro σ' H1 ⟨a, rfl, m1, ha⟩
      refine ⟨_, rfl, a, es, rfl, ha, ok, fun H2 m2 => ?_⟩
      have m2' := m1.trans m2
      refine ⟨_, rfl, b, hs, rfl, rb.same m2', okh, fun H3 m3 => ?_⟩
      have m3' := m2'.trans m3
      refine ⟨_, rfl, a, _, rfl, .inl (m3 _ _ (m2 _ _ ha)), fun l1 h1 => ?_⟩
      have p3 := m3' _ _ hp
      have z1 : p ≠ l1 := ne_of_none p3 h1
      have m4 := same_new m3' h1 (o := .dK (sgV es))
      have e4 : (L2.upd H3 l1 (.dK (sgV es))) l1 = some (.dK (sgV es)) := upd_same
      have p4 := m4 _ _ hp
      generalize L2.upd H3 l1 (.dK (sgV es)) = H4 at m4 e4 p4 ⊢
      refine ⟨_, rfl, p, C, dx, _, rfl, p4, vc.cl, vc.n1, by show 0 < 1000; decide, ?_⟩
      have b5 : But p H (L2.upd H4 p (.ins C dx (putF "sight_table" (.ref l1) []))) := (But.of m4).trans But.upd
      have p5 : (L2.upd H4 p (.ins C dx (putF "sight_table" (.ref l1) []))) p = some (.ins C dx (putF "sight_table" (.ref l1) [])) := upd_same
      have e5 : (L2.upd H4 p (.ins C dx (putF "sight_table" (.ref l1) []))) l1 = some (.dK (sgV es)) := by rw [upd_ne z1.symm]; exact e4
      have rb5 : Sq K (L2.upd H4 p (.ins C dx (putF "sight_table" (.ref l1) []))) b (hs.map V.str) := sq_but rb.sq b5 hp
      generalize L2.upd H4 p (.ins C dx (putF "sight_table" (.ref l1) [])) = H5 at b5 p5 e5 rb5 ⊢
      refine ⟨_, rfl, b, hs, rfl, rb5, by unfold scanBound; omega, fun q c hq hc => ?_⟩
      refine ⟨q, _, c, rfl, upd_same, by omega, fun ys l2 asc mem len h2 => ?_⟩
      generalize SetX (cxOf CX0 P w K mg base N_View___init__ "View.__init__" (defScope s_View___init__) f cdv A outer s H E).nox.prog (cxOf CX0 P w K mg base N_View___init__ "View.__init__" (defScope s_View___init__) f cdv A outer s H E).nox.w q (fun x => decide (x ∈ hs)) c = so at h2 ⊢
      have n6 := same_new (Same.refl H5) hq (o := so)
      have n7 := same_new n6 h2 (o := .lst (ys.map V.str))
      have f2 : H l2 = none := by
        cases z : H l2 with
        | none => rfl
        | some u =>
          have np : l2 ≠ p := fun e => by
            have := n6 _ _ p5
            rw [e, this] at h2; cases h2
          have := n6 _ _ (b5 _ _ z np)
          rw [this] at h2; cases h2
      have f1 : H l1 = none := m3'.free h1
      have p7 := n7 _ _ p5
      have z2 : l2 ≠ p := fun e => by
        have := n6 _ _ p5
        rw [e, this] at h2; cases h2
      refine ⟨_, rfl, p, C, dx, _, rfl, p7, vc.cl, vc.n2, Nat.lt_of_le_of_lt (putF_len _ _ _) (by decide), ?_⟩
      refine k ⟨p, dx, l1, l2⟩ ⟨es, ys⟩ _ rfl rfl ?_ ?_ ⟨upd_same, ?_, ?_, nd, ok, ?_, asc, e100, ?_⟩ rfl ?_
      · intro l hl
        simp only [VwAt.lists, List.mem_cons, List.not_mem_nil, or_false] at hl
        rcases hl with rfl | rfl
        · exact f1
        · exact f2
      · exact (b5.trans (But.of n7)).trans But.upd
      · rw [upd_ne z1.symm]; exact n7 _ _ e5
      · rw [upd_ne z2]; exact upd_same
      · exact fun h hh => okh h (of_decide_eq_true ((mem h).1 hh))
      · show ys.length ≤ 60
        omega
      · exact fun x => (mem x).trans decide_eq_true_iff
theorem ok_vw_eq (T : Bt mg) (vc : VwC K C) (g_View : mg "View" = some (.ref C)) {f : Addr} {fd : FuncData} (F : FunD K "__eq__" "View.__eq__" (defArgs s_View___eq__) (defBody s_View___eq__) (defScope s_View___eq__) [] [] f fd) : True := trivial
end
end Lw

namespace Lw
open PySem PySem.Spec PyProof.Rows L2 Txs
open C8 (pe_gc)
/-! ### what a view answers -/
/-- an own special method, with its promise -/
structure Ow (P : Program) (w : World) (K : PySem.W.Frag) (mg : PySem.Str → Option Value) (base : Heap) (k : Nat) (C : Addr) (n : PySem.Str) (sp : Sp) : Prop where
  ex : ∃ f fd ps, FnOk P w K mg base CX0 k f fd ps sp ∧ Binds K fd ps [] ∧ Itms.Spc K C n f
/-- a method that is called by its name -/
structure Me (P : Program) (w : World) (K : PySem.W.Frag) (mg : PySem.Str → Option Value) (base : Heap) (k : Nat) (C : Addr) (m : PySem.Str) (sp : Sp) : Prop where
  ex : ∃ f fd ps, Meth K C m f ∧ Cls K C ∧ FnOk P w K mg base CX0 k f fd ps sp ∧ Binds K fd ps []
section
variable {X : Cx} {k j : Nat} {C : Addr} {sp : Sp} {m : PySem.Str} {o e a b : Expr} {es : List Expr} {ta tb : TE} {t : TA} {apos pos : Pos}
theorem op_wn (c : Ow X.prog X.w X.K X.mg X.base k C "__contains__" sp) (hr : Room j X.A) (hk : k ≤ j) : OpR X (compareOp .In) (Itms.rInI C sp false) :=
  let ⟨_, _, _, F, b, O⟩ := c.ex
  Itms.op_inI F b O (hr.mono hk)
theorem call_wl (c : Ow X.prog X.w X.K X.mg X.base k C "__len__" sp) (hr : Room j X.A) (hk : k + 1 ≤ j) : CallR X (.builtin "len") (Itms.rLenI C sp) :=
  let ⟨_, _, _, F, b, O⟩ := c.ex
  Itms.call_lenI F b O (hr.mono hk)
theorem pe_wi (c : Ow X.prog X.w X.K X.mg X.base k C "__getitem__" sp) (hr : Room j X.A) (hk : k + 1 ≤ j) (ha : PE X a ta) (he : PE X b tb)
    (hs : ∀ (o : Addr) (i : Value), subscripted b true (.ref o) i = runValue (.builtin "lifetime.subscript" ⟨[.ref o, i], []⟩) := by intro _ _; with_unfolding_all rfl) : PE X (.Subscript a b pos) (tOp (Itms.rIxI C sp) ta tb) :=
  let ⟨_, _, _, F, b, O⟩ := c.ex
  Itms.pe_ixI F b O (hr.mono hk) ha he hs
theorem set_wi (c : Ow X.prog X.w X.K X.mg X.base k C "__setitem__" sp) (hr : Room j X.A) (hk : k ≤ j) : PSet X (Itms.rSetI C sp) :=
  let ⟨_, _, _, F, b, O⟩ := c.ex
  Itms.set_insI F b O (hr.mono hk)
theorem pe_me {pl : Sem Bool} (c : Me X.prog X.w X.K X.mg X.base k C m sp) (hr : Room j X.A) (hk : k ≤ j) (he : PE X o ta) (ha : PA X (e :: es) t)
    (hst : starEach (e :: es) X.env = (false, eval e X.env) :: starEach es X.env := by rfl) (hpl : (backTo pos (starEach es X.env)).any (·.1) = false := by rfl)
    (ht : eval (.Call (.Attribute o m apos) (e :: es) [] pos) X.env = (do
      let ov ← eval o X.env
      standAt apos.atName
      let (f, first) ← holding [ov] (getMethod ov m pl)
      callWith pos f first (backTo pos (starEach (e :: es) X.env)) (backToKw pos (keywordEach [] X.env))) := by rfl) :
    PE X (.Call (.Attribute o m apos) (e :: es) [] pos) (tMeth C m sp [] E0 ta t) :=
  let ⟨_, _, _, M, cl, F, b⟩ := c.ex
  pe_meth (pl := pl) he cl M F (hr.mono hk) b .nil pass0 ha hst hpl ht
theorem pe_me0 {pl : Sem Bool} (c : Me X.prog X.w X.K X.mg X.base k C m sp) (hr : Room j X.A) (hk : k ≤ j) (he : PE X o ta)
    (ht : eval (.Call (.Attribute o m apos) [] [] pos) X.env = (do
      let ov ← eval o X.env
      standAt apos.atName
      let (f, first) ← holding [ov] (getMethod ov m pl)
      callWith pos f first (backTo pos (starEach [] X.env)) (backToKw pos (keywordEach [] X.env))) := by rfl) :
    PE X (.Call (.Attribute o m apos) [] [] pos) (tMeth C m sp [] E0 ta tNil) :=
  let ⟨_, _, _, M, cl, F, b⟩ := c.ex
  pe_meth0 (pl := pl) he cl M F (hr.mono hk) b .nil pass0 ht
end
/-- what a class's own special method needs of the top -/
def spcB (K : PySem.W.Frag) (C : Addr) (n : PySem.Str) : Bool := He.eqO (PySem.W.findIn K (.ref C) n) (some (some (.ref (He.ma K C n)))) && (PySem.W.isFn K (.ref (He.ma K C n)) && (PySem.W.fnIn K (He.ma K C n) && PySem.W.noSeq K C))
theorem spc_ok {K : PySem.W.Frag} {C : Addr} {n : PySem.Str} (h : spcB K C n = true) : Itms.Spc K C n (He.ma K C n) := by
  obtain ⟨h1, h2⟩ := He.ba h
  obtain ⟨h3, h4⟩ := He.ba h2
  obtain ⟨h5, h6⟩ := He.ba h4
  exact ⟨He.eqO_ok h1, h3, h5, h6⟩
/-! tables of texts -/
theorem inr_eq {x y : PySem.Str} : ((.inr x : Key) = .inr y) = (x = y) := propext ⟨fun h => by injection h, fun h => by rw [h]⟩
theorem str_eq {x y : PySem.Str} : (V.str x = V.str y) = (x = y) := propext ⟨fun h => by injection h, fun h => by rw [h]⟩
theorem sg_in {es : List (PySem.Str × PySem.Str)} (nd : (es.map (·.1)).Nodup) {x y : PySem.Str} (h : (x, y) ∈ es) : valV (sgV es) (.inr x) = some (.str y) := by
  induction es with
  | nil => cases h
  | cons e es ih =>
    simp only [List.map_cons, List.nodup_cons] at nd
    show valV (((.inr e.1 : Key), V.str e.2) :: sgV es) (.inr x) = _
    rcases List.mem_cons.mp h with q | q
    · rw [← q]
      exact valV_pos rfl
    · rw [valV_neg (by
        intro z
        have z : e.1 = x := by simpa [inr_eq] using z
        exact nd.1 (by rw [z]; exact List.mem_map.mpr ⟨_, q, rfl⟩))]
      exact ih nd.2 q
theorem sg_some {es : List (PySem.Str × PySem.Str)} {x : PySem.Str} {v : V} (h : valV (sgV es) (.inr x) = some v) : ∃ y, v = .str y ∧ (x, y) ∈ es := by
  induction es with
  | nil => cases h
  | cons e es ih =>
    change valV (((.inr e.1 : Key), V.str e.2) :: sgV es) (.inr x) = _ at h
    by_cases q : (.inr e.1 : Key) = .inr x
    · rw [valV_pos q] at h
      have q : e.1 = x := by simpa [inr_eq] using q
      exact ⟨e.2, (Option.some.inj h).symm, by rw [← q]; exact List.mem_cons_self⟩
    · rw [valV_neg q] at h
      obtain ⟨y, e1, e2⟩ := ih h
      exact ⟨y, e1, List.mem_cons_of_mem _ e2⟩
theorem sg_perm {es fs : List (PySem.Str × PySem.Str)} (p : es.Perm fs) (nd : (es.map (·.1)).Nodup) (x : PySem.Str) : valV (sgV es) (.inr x) = valV (sgV fs) (.inr x) := by
  have nd' : (fs.map (·.1)).Nodup := (p.map _).nodup_iff.1 nd
  cases h : valV (sgV es) (.inr x) with
  | some v =>
    obtain ⟨y, rfl, m⟩ := sg_some h
    exact (sg_in nd' (p.mem_iff.1 m)).symm
  | none =>
    cases g : valV (sgV fs) (.inr x) with
    | none => rfl
    | some v =>
      obtain ⟨y, rfl, m⟩ := sg_some g
      rw [sg_in nd (p.mem_iff.2 m)] at h
      cases h
theorem sg_keys (es : List (PySem.Str × PySem.Str)) : (sgV es).map (·.1) = (es.map (·.1)).map Sum.inr := by
  unfold sgV
  rw [List.map_map, List.map_map]
  rfl
theorem sg_len (es : List (PySem.Str × PySem.Str)) : (sgV es).length = es.length := by unfold sgV; rw [List.length_map]
/-- equal dicts, as == asks of them -/
theorem sg_deq {es fs : List (PySem.Str × PySem.Str)} (p : es.Perm fs) (nd : (es.map (·.1)).Nodup) : (sgV es).length = (sgV fs).length ∧ ∀ q ∈ sgV es, valV (sgV fs) q.1 = some q.2 ∧ flatB q.2 = true := by
  refine ⟨by rw [sg_len, sg_len, p.length_eq], fun q hq => ?_⟩
  obtain ⟨e, he, rfl⟩ := List.mem_map.mp hq
  exact ⟨sg_in ((p.map _).nodup_iff.1 nd) (p.mem_iff.1 he), rfl⟩
theorem asc_of {ys zs : List PySem.Str} (p : ys.Perm zs) (s : sortedS ys = true) (nd : zs.Nodup) : Asc ys := ⟨s, p.nodup_iff.2 nd⟩
def spVwWords (C : Addr) : Sp := fun vs H Q _ => ∃ A d, vs = [.ref A.p] ∧ IsVw C H A d ∧ d.sights.length < 64 ∧ ∀ (ys : List PySem.Str) p, Asc ys → (∀ x, x ∈ ys ↔ x ∈ d.sights.map (·.1)) → H p = none → Q (.ref p) (upd H p (.lst (ys.map V.str)))
def spVwSights (C : Addr) : Sp := fun vs H Q _ => ∃ A d, vs = [.ref A.p] ∧ IsVw C H A d ∧ ∀ p, H p = none → Q (.ref p) (upd H p (.dK (sgV d.sights)))
def spVwHolds (C : Addr) : Sp := fun vs H Q _ => ∃ A d, vs = [.ref A.p] ∧ IsVw C H A d ∧ ∀ p, H p = none → Q (.ref p) (upd H p (.lst (d.holds.map V.str)))
def spVwLen (C : Addr) : Sp := fun vs H Q _ => ∃ A d, vs = [.ref A.p] ∧ IsVw C H A d ∧ Q (.int d.sights.length) H
def spVwIn (K : PySem.W.Frag) (C : Addr) : Sp := fun vs H Q _ => ∃ A d x, vs = [.ref A.p, x] ∧ IsVw C H A d ∧ ((∃ z, x = .str z ∧ z.length ≤ sizeLine ∧ Q (.bl (nmB z && (valV (sgV d.sights) (.inr z)).isSome)) H) ∨ ∃ t, TyX K H x t ∧ PySem.W.kitOne K t (.type "str") = some false ∧ Q (.bl false) H)
def spVwItem (C : Addr) : Sp := fun vs H Q _ => ∃ A d z, vs = [.ref A.p, .str z] ∧ IsVw C H A d ∧ Nm z ∧ Q ((valV (sgV d.sights) (.inr z)).getD .non) H
def spVwSet (C : Addr) : Sp := fun vs H Q _ => ∃ A d z v, vs = [.ref A.p, .str z, v] ∧ IsVw C H A d ∧ Nm z ∧ ((∃ y, v = .str y ∧ Nm y ∧ Q .non (upd H A.l1 (.dK (putK (sgV d.sights) (.inr z) (.str y))))) ∨
  (v = .non ∧ (valV (sgV d.sights) (.inr z) = none → Q .non H) ∧ ((valV (sgV d.sights) (.inr z)).isSome = true → Q .non (upd H A.l1 (.dK (dropK (sgV d.sights) (.inr z)))))))
def spVwHold (K : PySem.W.Frag) (C : Addr) : Sp := fun vs H Q _ => ∃ (A : VwAt) (d : Vw) (b : Addr) (hs : List PySem.Str), vs = [.ref A.p, .ref b] ∧ IsVw C H A d ∧ RowAt K H b (hs.map V.str) ∧ (∀ h ∈ hs, Nm h) ∧ hs.length ≤ 60 ∧
  ∀ (l2 : Addr) (ys : List PySem.Str) H', H l2 = none → But A.p H H' → IsVw C H' ⟨A.p, A.dx, A.l1, l2⟩ ⟨d.sights, ys⟩ → (∀ x, x ∈ ys ↔ x ∈ hs) → Q .non H'
def spVwCopy (C : Addr) : Sp := fun vs H Q _ => ∃ A d, vs = [.ref A.p] ∧ IsVw C H A d ∧ ∀ (B : VwAt) H', H B.p = none → (∀ l ∈ B.lists, H l = none) → Same H H' → IsVw C H' B d → Q (.ref B.p) H'
def spVwEq (K : PySem.W.Frag) (C : Addr) : Sp := fun vs H Q _ => (∃ A B d e, vs = [.ref A.p, .ref B.p] ∧ IsVw C H A d ∧ IsVw C H B e ∧ TyX K H (.ref B.p) (.ref C) ∧ d.sights.Perm e.sights ∧ Q (.bl (decide (d.holds = e.holds))) H) ∨ spVwNo K C vs H Q E0
theorem nm_ok1 {x : PySem.Str} (h : Nm x) : PyData.strOk x = true := by
  unfold PyData.strOk
  rw [← Array.all_toList, List.all_eq_true]
  intro c hc
  have := h.2.2 c hc
  exact decide_eq_true (by omega)
theorem eqv_strs : ∀ ts us : List PySem.Str, PyData.eqvAll (ts.map PyData.str) (us.map PyData.str) = decide (ts = us)
  | [], [] => by simp [PyData.eqvAll]
  | [], u :: us => by simp [PyData.eqvAll]
  | t :: ts, [] => by simp [PyData.eqvAll]
  | t :: ts, u :: us => by
    have e : PyData.eqv (.str t) (.str u) = (t == u) := by simp only [PyData.eqv]
    simp only [List.map_cons, PyData.eqvAll, e, eqv_strs ts us]
    rw [Bool.beq_eq_decide_eq, ← Bool.decide_and]
    exact decide_eq_decide.mpr (by simp)
theorem eqv_strsL (ts us : List PySem.Str) : PyData.eqv (.list (ts.map PyData.str)) (.list (us.map PyData.str)) = decide (ts = us) := by simp only [PyData.eqv]; exact eqv_strs ts us
section
variable {P : Program} {w : World} {K : PySem.W.Frag} {mg : PySem.Str → Option Value} {base : Heap} {C : Addr}
theorem ok_vw_sights (T : Bt mg) (vc : VwC K C) {f : Addr} {fd : FuncData} (F : FunD K "sights" "View.sights" (defArgs s_View_sights) (defBody s_View_sights) (defScope s_View_sights) [] [] f fd) : FnOk P w K mg base CX0 1 f fd ["self"] (spVwSights C) := by
  refine F.ok sc_View_sights (fun vs H Q E h => ?_) (fun cdv A0 outer s H vs Q E hr h => ?_)
  · obtain ⟨A, d, rfl, _⟩ := h
    rfl
  · refine ⟨_, PSs.nox (pss_one (ps_ret (pe_callTy call_dictD (by rfl) T.b_dict (by decide +kernel) (pa_cons (pe_fld (pv 0) rfl) pa_nil)))), ?_⟩
    obtain ⟨A, d, rfl, i, k⟩ := h
    exact ⟨_, rfl, A.p, C, A.dx, _, _, rfl, i.ins, vc.cl, vc.n1, vwF_sights _ _, A.l1, _, rfl, .inl i.sights, k⟩
theorem ok_vw_eq2 (T : Bt mg) (vc : VwC K C) (g_View : mg "View" = some (.ref C)) {f : Addr} {fd : FuncData} (F : FunD K "__eq__" "View.__eq__" (defArgs s_View___eq__) (defBody s_View___eq__) (defScope s_View___eq__) [] [] f fd) : FnOk P w K mg base CX0 1 f fd ["self", "other"] (spVwEq K C) := by
  refine F.ok sc_View___eq__ (fun vs H Q E h => ?_) (fun cdv A0 outer s H vs Q E hr h => ?_)
  · rcases h with ⟨A, B, d, e, rfl, _⟩ | ⟨p, y, t, rfl, _⟩ <;> rfl
  · have hu64 := hu64_of hr
    have hu := hu_of hr
    refine ⟨_, PSs.nox (pss_one (ps_ret (pe_and (pe_callB call_isi (by rfl) T.b_isinstance (by decide +kernel) (pa_cons (pv 1) (pa_cons (pe_gref rfl g_View) pa_nil))) (pe_and (pe_cmpR (op_eq_dictA hr.units0) (pe_fld (pv 0) rfl) (pe_fld (pv 1) rfl) (nomark _)) (pe_one (pe_cmpR (op_eqD hu64) (pe_fld (pv 0) rfl) (pe_fld (pv 1) rfl) (nomark _))))))), ?_⟩
    rcases h with ⟨A, B, d, e, rfl, i, j, ty, pm, q⟩ | ⟨p, y, t, rfl, ty, kt, q⟩
    · refine ⟨_, rfl, _, _, _, _, true, rfl, .own _, ty, by simp [PySem.W.kitOne], true, rfl, ?_⟩
      obtain ⟨g1, g2⟩ := sg_deq pm i.nd
      refine ⟨_, rfl, A.p, C, A.dx, _, _, rfl, i.ins, vc.cl, vc.n1, vwF_sights _ _, _, rfl, B.p, C, B.dx, _, _, rfl, j.ins, vc.cl, vc.n1, vwF_sights _ _, A.l1, B.l1, _, _, rfl, rfl, i.sights, j.sights, g1, g2, _, rfl, ?_⟩
      refine ⟨_, rfl, A.p, C, A.dx, _, _, rfl, i.ins, vc.cl, vc.n2, vwF_holds _ _, _, rfl, B.p, C, B.dx, _, _, rfl, j.ins, vc.cl, vc.n2, vwF_holds _ _, _, _, .lst (SqL.of i.holds) (dp_strs _), .lst (SqL.of j.holds) (dp_strs _), strs_shaped fun h hh => nm_ok1 (i.hk h hh), strs_shaped fun h hh => nm_ok1 (j.hk h hh), ?_⟩
      rw [eqv_strsL]
      exact q
    · exact ⟨_, rfl, _, _, _, _, false, rfl, .own _, ty, kt, false, rfl, q⟩
end
end Lw

namespace Lw
open PySem PySem.Spec PyProof.Rows L2 Txs
open C8 (pe_gc)
theorem inV_strs (n : PySem.Str) (ms : List PySem.Str) : inV (.str n) (ms.map V.str) = decide (n ∈ ms) := by
  unfold inV
  rw [List.any_map]
  by_cases h : n ∈ ms
  · rw [decide_eq_true h]
    exact List.any_eq_true.mpr ⟨n, h, by show (n == n) = true; simp⟩
  · rw [decide_eq_false h]
    refine List.any_eq_false.mpr fun m hm q => h ?_
    have q : (m == n) = true := q
    rw [← beq_iff_eq.mp q]; exact hm
theorem nd_add {α : Type} {l : List α} {x : α} (h : l.Nodup) (n : x ∉ l) : (l ++ [x]).Nodup :=
  List.nodup_append.mpr ⟨h, by simp, fun a ha b hb e => n (by rw [← List.mem_singleton.mp hb, ← e]; exact ha)⟩
def spLong : Sp := fun vs H Q _ => ∃ (a : Addr) (n : Nat), vs = [.ref a, .int (n : Int)] ∧ Stm H a ∧ 0 < n ∧ n ≤ 20 ∧
  ∀ p (ws : List PySem.Str) H', H p = none → But a H H' → Stm H' a → H' p = some (.lst (ws.map V.str)) → 0 < ws.length → ws.length ≤ n → ws.Nodup → (∀ w ∈ ws, Nm w) → Q (.ref p) H'
section
variable {P : Program} {w : World} {K : PySem.W.Frag} {mg : PySem.Str → Option Value} {base : Heap}
end
end Lw

namespace Lw
open PySem PySem.Spec PyProof.Rows L2 Txs
open C8 (pe_gc)
/-! ### tables of texts that are changed; views in a changed heap -/
/-- x sees y, too: in its place, or at the end -/
def setS (es : List (PySem.Str × PySem.Str)) (x y : PySem.Str) : List (PySem.Str × PySem.Str) :=
  if (es.any fun e => decide (e.1 = x)) = true then es.map (fun e => if e.1 = x then (e.1, y) else e) else es ++ [(x, y)]
theorem sg_set (es : List (PySem.Str × PySem.Str)) (x y : PySem.Str) : sgV (setS es x y) = putK (sgV es) (.inr x) (.str y) := by
  have ea : ((sgV es).any fun kv => decide (kv.1 = .inr x)) = es.any fun e => decide (e.1 = x) := by
    unfold sgV
    rw [List.any_map]
    congr 1
    funext e
    show decide ((.inr e.1 : Key) = .inr x) = decide (e.1 = x)
    simp only [inr_eq]
  unfold setS putK
  rw [ea]
  split
  · unfold sgV
    rw [List.map_map, List.map_map]
    refine List.map_congr_left fun e _ => ?_
    show ((.inr (if e.1 = x then (e.1, y) else e).1 : Key), V.str (if e.1 = x then (e.1, y) else e).2) = if (.inr e.1 : Key) = .inr x then ((.inr e.1 : Key), V.str y) else ((.inr e.1 : Key), V.str e.2)
    by_cases q : e.1 = x
    · rw [if_pos q, if_pos (by rw [q])]
    · rw [if_neg q, if_neg (by rw [inr_eq]; exact q)]
  · unfold sgV
    rw [List.map_append]
    rfl
theorem set_keys (es : List (PySem.Str × PySem.Str)) (x y : PySem.Str) (nd : (es.map (·.1)).Nodup) : ((setS es x y).map (·.1)).Nodup := by
  unfold setS
  split
  · rw [List.map_map]
    have : ((·.1) ∘ fun e : PySem.Str × PySem.Str => if e.1 = x then (e.1, y) else e) = (·.1) := by
      funext e
      show (if e.1 = x then (e.1, y) else e).1 = e.1
      split <;> rfl
    rw [this]
    exact nd
  · rename_i h
    rw [List.map_append]
    refine nd_add nd fun m => h ?_
    obtain ⟨e, he, q⟩ := List.mem_map.mp m
    exact List.any_eq_true.mpr ⟨e, he, decide_eq_true q⟩
theorem set_mem {es : List (PySem.Str × PySem.Str)} {x y : PySem.Str} {e : PySem.Str × PySem.Str} (h : e ∈ setS es x y) : e ∈ es ∨ e = (x, y) := by
  unfold setS at h
  split at h
  · obtain ⟨g, hg, rfl⟩ := List.mem_map.mp h
    by_cases q : g.1 = x
    · rw [if_pos q]
      exact .inr (by rw [q])
    · rw [if_neg q]
      exact .inl hg
  · rcases List.mem_append.mp h with q | q
    · exact .inl q
    · exact .inr (List.mem_singleton.mp q)
theorem set_len (es : List (PySem.Str × PySem.Str)) (x y : PySem.Str) : (setS es x y).length ≤ es.length + 1 := by
  unfold setS
  split
  · rw [List.length_map]; omega
  · rw [List.length_append]; exact Nat.le_refl _
theorem IsVw.put {C : Addr} {H : Hp} {A : VwAt} {d : Vw} {q : Addr} {o : HO} (h : IsVw C H A d) (n1 : A.p ≠ q) (n2 : A.l1 ≠ q) (n3 : A.l2 ≠ q) : IsVw C (L2.upd H q o) A d :=
  ⟨by rw [upd_ne n1]; exact h.ins, by rw [upd_ne n2]; exact h.sights, by rw [upd_ne n3]; exact h.holds, h.nd, h.ok, h.hk, h.asc, h.small⟩
theorem IsVw.but {C : Addr} {H H' : Hp} {A : VwAt} {d : Vw} {q : Addr} (h : IsVw C H A d) (k : But q H H') (n1 : A.p ≠ q) (n2 : A.l1 ≠ q) (n3 : A.l2 ≠ q) : IsVw C H' A d :=
  ⟨k _ _ h.ins n1, k _ _ h.sights n2, k _ _ h.holds n3, h.nd, h.ok, h.hk, h.asc, h.small⟩
theorem vwF_no {l1 l2 : Addr} {m : PySem.Str} (h1 : ("hold_list" : PySem.Str) ≠ m := by decide +kernel) (h2 : ("sight_table" : PySem.Str) ≠ m := by decide +kernel) : (vwF l1 l2).lookup m = none := by
  unfold vwF
  rw [lookup_putF, if_neg (fun e => h1 e.symm), lookup_putF, if_neg (fun e => h2 e.symm)]
  rfl
theorem pairs_perm {fs es : List (PySem.Str × PySem.Str)} {ss : List PySem.Str} (hs : ss.Perm (es.map (·.1))) (nd : (es.map (·.1)).Nodup) (hk : fs.map (·.1) = ss) (hm : ∀ e ∈ fs, e ∈ es) : fs.Perm es := by
  have ndk : (fs.map (·.1)).Nodup := by rw [hk]; exact hs.nodup_iff.2 nd
  have nf : ∀ {l : List (PySem.Str × PySem.Str)}, (l.map (·.1)).Nodup → l.Nodup := fun h => List.Pairwise.of_map (·.1) (fun a b n e => n (by rw [e])) h
  refine (List.perm_ext_iff_of_nodup (nf ndk) (nf nd)).2 fun e => ⟨hm e, fun he => ?_⟩
  have : e.1 ∈ fs.map (·.1) := by rw [hk]; exact hs.mem_iff.2 (List.mem_map.mpr ⟨e, he, rfl⟩)
  obtain ⟨g, hg, q⟩ := List.mem_map.mp this
  have e1 := sg_in nd (x := e.1) (y := e.2) he
  have e2 := sg_in nd (x := g.1) (y := g.2) (hm g hg)
  rw [q, e1] at e2
  have : e.2 = g.2 := by injection (Option.some.inj e2)
  have : g = e := Prod.ext q this.symm
  rw [← this]
  exact hg
theorem last_of {ws : List PySem.Str} (h : 0 < ws.length) : ∃ z, z ∈ ws ∧ atI (ws.map V.str) (-1) = some (V.str z) := by
  obtain ⟨ys, z, e⟩ : ∃ ys z, ws = ys ++ [z] := by
    rcases List.eq_nil_or_concat ws with q | ⟨ys, z, q⟩
    · rw [q] at h; exact absurd h (by simp)
    · exact ⟨ys, z, by rw [q]; simp⟩
  refine ⟨z, by rw [e]; simp, ?_⟩
  rw [e, List.map_append]
  exact atI_last _ _
theorem cut_take (xs : List V) (k : Nat) : cutV xs none (some (k : Int)) = xs.take k := by
  unfold cutV
  rw [HT.sIx_none, HT.sIx_nat, List.drop_zero, Nat.sub_zero]
  by_cases h : k ≤ xs.length
  · rw [Nat.min_eq_left h]
  · rw [Nat.min_eq_right (by omega), List.take_of_length_le (Nat.le_refl _), List.take_of_length_le (by omega)]
theorem cut_mid (xs : List V) (j k : Nat) (h : k ≤ xs.length) (hj : j ≤ k) : cutV xs (some (j : Int)) (some (k : Int)) = (xs.drop j).take (k - j) := by
  unfold cutV
  rw [HT.sIx_nat, HT.sIx_nat, Nat.min_eq_left h, Nat.min_eq_left (Nat.le_trans hj h)]
end Lw

namespace Lw
open PySem PySem.Spec PyProof.Rows L2 Txs
open C8 (pe_gc)
/-! ### values of many kinds, and what is_row, is_name and == tell of them -/
/-- a value that a law made -/
inductive Ob (C : Addr) (H : Hp) : V → Prop
  | non : Ob C H .non
  | bl (b : Bool) : Ob C H (.bl b)
  | int (i : Int) : Ob C H (.int i)
  | str (z : PySem.Str) (h : z.length ≤ 100) : Ob C H (.str z)
  | lst {a : Addr} {xs : List V} (h : H a = some (.lst xs)) : Ob C H (.ref a)
  | tup {a : Addr} {xs : List V} (h : H a = some (.tup xs)) : Ob C H (.ref a)
  | dic {a : Addr} {kvs : List (Key × V)} (h : H a = some (.dK kvs)) (nd : (kvs.map (·.1)).Nodup) : Ob C H (.ref a)
  | vw {A : VwAt} {d : Vw} (i : IsVw C H A d) : Ob C H (.ref A.p)
theorem Ob.same {C : Addr} {H H' : Hp} {v : V} (h : Ob C H v) (k : Same H H') : Ob C H' v := by
  cases h with
  | non => exact .non
  | bl b => exact .bl b
  | int i => exact .int i
  | str z h => exact .str z h
  | lst h => exact .lst (k _ _ h)
  | tup h => exact .tup (k _ _ h)
  | dic h nd => exact .dic (k _ _ h) nd
  | vw i => exact .vw (i.same k)
theorem len100 {n : Nat} (h : n ≤ 100) : n ≤ sizeLine := Nat.le_trans h (by decide)
/-- no name -/
def NoNm (K : PySem.W.Frag) (H : Hp) (x : V) : Prop := (∃ z, x = .str z ∧ z.length ≤ sizeLine ∧ nmB z = false) ∨ ∃ t, TyX K H x t ∧ PySem.W.kitOne K t (.type "str") = some false
abbrev rowsV : List Value := [.type "list", .type "tuple"]
section
variable {K : PySem.W.Frag} {C : Addr} {H : Hp} {v : V}
theorem own_kit (bi : Bi K C) {T : String} (h : T ∈ kinds7) (m : PySem.W.kitMeta T = true) : PySem.W.kitOne K (.ref C) (.type T) = some false := by
  show (if (Value.ref C == Value.type T) = true then some true else PySem.W.kitCls K (.ref C) (.type T)) = some false
  rw [if_neg (by simp)]
  show (if PySem.W.kitMeta T = true then PySem.W.subIn K (.ref C) (.type T) else none) = some false
  rw [if_pos m]
  exact bi.nb T h
theorem no_row {a : String} (h1 : kitB a "list" = some false) (h2 : kitB a "tuple" = some false) : PySem.W.kitAny K (.type a) rowsV = some false :=
  kitAny_cons (b := false) (kit_ty h1) (fun _ => kitAny_cons (b := false) (kit_ty h2) (fun _ => rfl) fun q => nomatch q) fun q => nomatch q
theorem own_row (bi : Bi K C) : PySem.W.kitAny K (.ref C) rowsV = some false :=
  kitAny_cons (b := false) (own_kit bi (by decide) (by decide +kernel)) (fun _ => kitAny_cons (b := false) (own_kit bi (by decide) (by decide +kernel)) (fun _ => rfl) fun q => nomatch q) fun q => nomatch q
/-- is it a bool? -/
theorem Ob.bool (bi : Bi K C) (cl : Cls K C) (h : Ob C H v) : ∃ t b, TyX K H v t ∧ PySem.W.kitOne K t (.type "bool") = some b := by
  cases h with
  | non => exact ⟨_, _, .base .non, kit_ty (r := false) (by decide +kernel)⟩
  | bl b => exact ⟨_, _, .base (.bl b), kit_ty (r := true) (by decide +kernel)⟩
  | int i => exact ⟨_, _, .base (.int i), kit_ty (r := false) (by decide +kernel)⟩
  | str z h => exact ⟨_, _, .base (.str z), kit_ty (r := false) (by decide +kernel)⟩
  | lst h => exact ⟨_, _, .base (.lst h), kit_ty (r := false) (by decide +kernel)⟩
  | tup h => exact ⟨_, _, .base (.tup h), kit_ty (r := false) (by decide +kernel)⟩
  | dic h nd => exact ⟨_, _, .base (.dK h), kit_ty (r := false) (by decide +kernel)⟩
  | vw i => exact ⟨_, _, bi.ty cl i.ins, own_kit bi (by decide) (by decide +kernel)⟩
/-- a name, or none -/
theorem Ob.name (bi : Bi K C) (cl : Cls K C) (h : Ob C H v) : (∃ z, v = .str z ∧ Nm z) ∨ NoNm K H v := by
  cases h with
  | non => exact .inr (.inr ⟨_, .base .non, kit_ty (by decide +kernel)⟩)
  | bl b => exact .inr (.inr ⟨_, .base (.bl b), kit_ty (by decide +kernel)⟩)
  | int i => exact .inr (.inr ⟨_, .base (.int i), kit_ty (by decide +kernel)⟩)
  | str z h =>
    cases q : nmB z with
    | true => exact .inl ⟨z, rfl, nmB_iff.1 q⟩
    | false => exact .inr (.inl ⟨z, rfl, len100 h, q⟩)
  | lst h => exact .inr (.inr ⟨_, .base (.lst h), kit_ty (by decide +kernel)⟩)
  | tup h => exact .inr (.inr ⟨_, .base (.tup h), kit_ty (by decide +kernel)⟩)
  | dic h nd => exact .inr (.inr ⟨_, .base (.dK h), kit_ty (by decide +kernel)⟩)
  | vw i => exact .inr (.inr ⟨_, bi.ty cl i.ins, own_kit bi (by decide) (by decide +kernel)⟩)
/-- a row, or none -/
theorem Ob.row (bi : Bi K C) (cl : Cls K C) (h : Ob C H v) : (∃ a xs, v = .ref a ∧ (H a = some (.lst xs) ∨ H a = some (.tup xs))) ∨ ∃ t, TyX K H v t ∧ PySem.W.kitAny K t rowsV = some false := by
  cases h with
  | non => exact .inr ⟨_, .base .non, no_row (by decide +kernel) (by decide +kernel)⟩
  | bl b => exact .inr ⟨_, .base (.bl b), no_row (by decide +kernel) (by decide +kernel)⟩
  | int i => exact .inr ⟨_, .base (.int i), no_row (by decide +kernel) (by decide +kernel)⟩
  | str z h => exact .inr ⟨_, .base (.str z), no_row (by decide +kernel) (by decide +kernel)⟩
  | lst h => exact .inl ⟨_, _, rfl, .inl h⟩
  | tup h => exact .inl ⟨_, _, rfl, .inr h⟩
  | dic h nd => exact .inr ⟨_, .base (.dK h), no_row (by decide +kernel) (by decide +kernel)⟩
  | vw i => exact .inr ⟨_, bi.ty cl i.ins, own_row bi⟩
theorem Ob.self (h : Ob C H v) : Sms.Self K H v ∨ ∃ A d, v = .ref A.p ∧ IsVw C H A d := by
  cases h with
  | non => exact .inl (.inl rfl)
  | bl b => exact .inl (.inl rfl)
  | int i => exact .inl (.inl rfl)
  | str z h => exact .inl (.inl rfl)
  | lst h => exact .inl (.inr ⟨_, rfl, .inl ⟨_, SqL.of h⟩⟩)
  | tup h => exact .inl (.inr ⟨_, rfl, .inr (.inl ⟨_, SqT.of h⟩)⟩)
  | dic h nd => exact .inl (.inr ⟨_, rfl, .inr (.inr ⟨_, h, nd⟩)⟩)
  | vw i => exact .inr ⟨_, _, rfl, i⟩
end
/-- what a check of words finds: no row, the first item that is no name, or names -/
inductive Out where
  | bad (b : Bool) (x : V)
  | good (hs : List PySem.Str)
inductive Dw (K : PySem.W.Frag) (C : Addr) (H : Hp) : V → Out → Prop
  | out {v : V} {t : Value} (ob : Ob C H v) (ty : TyX K H v t) (no : PySem.W.kitAny K t rowsV = some false) : Dw K C H v (.bad false v)
  | bad {a : Addr} {xs : List V} {i : Nat} {x : V} (r : RowAt K H a xs) (few : xs.length ≤ 60) (h : xs[i]? = some x) (ob : Ob C H x) (no : NoNm K H x) (ok : ∀ y ∈ xs.take i, ∃ z, y = .str z ∧ Nm z) : Dw K C H (.ref a) (.bad true x)
  | good {a : Addr} {hs : List PySem.Str} (r : RowAt K H a (hs.map V.str)) (few : hs.length ≤ 60) (ok : ∀ h ∈ hs, Nm h) : Dw K C H (.ref a) (.good hs)
theorem NoNm.same {K : PySem.W.Frag} {H H' : Hp} {x : V} (h : NoNm K H x) (k : Same H H') : NoNm K H' x := by
  rcases h with h | ⟨t, ty, kt⟩
  · exact .inl h
  · exact .inr ⟨t, tyx_keep ty k, kt⟩
theorem Dw.same {K : PySem.W.Frag} {C : Addr} {H H' : Hp} {v : V} {o : Out} (h : Dw K C H v o) (k : Same H H') : Dw K C H' v o := by
  cases h with
  | out ob ty no => exact .out (ob.same k) (tyx_keep ty k) no
  | bad r few h ob no ok => exact .bad (r.same k) few h (ob.same k) (no.same k) ok
  | good r few ok => exact .good (r.same k) few ok
theorem Dw.ob {K : PySem.W.Frag} {C : Addr} {H : Hp} {v x : V} {b : Bool} (h : Dw K C H v (.bad b x)) : Ob C H x := by
  cases h with
  | out ob ty no => exact ob
  | bad r few h ob no ok => exact ob
/-- what the law passes: of a row, each item is known -/
structure Arg (C : Addr) (H : Hp) (v : V) : Prop where
  ob : Ob C H v
  row : ∀ a xs, v = .ref a → (H a = some (.lst xs) ∨ H a = some (.tup xs)) → (∀ x ∈ xs, Ob C H x) ∧ xs.length ≤ 60
theorem first_bad {K : PySem.W.Frag} {C : Addr} {H : Hp} (bi : Bi K C) (cl : Cls K C) : ∀ {xs : List V}, (∀ x ∈ xs, Ob C H x) → (∃ hs : List PySem.Str, xs = hs.map V.str ∧ ∀ h ∈ hs, Nm h) ∨ ∃ i x, xs[i]? = some x ∧ Ob C H x ∧ NoNm K H x ∧ ∀ y ∈ xs.take i, ∃ z, y = V.str z ∧ Nm z
  | [], _ => .inl ⟨[], rfl, fun _ h => nomatch h⟩
  | x :: xs, h => by
    have ox := h x List.mem_cons_self
    rcases ox.name bi cl with ⟨z, rfl, nz⟩ | no
    · rcases first_bad bi cl (xs := xs) fun y hy => h y (List.mem_cons_of_mem _ hy) with ⟨hs, e, ok⟩ | ⟨i, y, hi, oy, ny, ok⟩
      · refine .inl ⟨z :: hs, by rw [e]; rfl, fun u hu => ?_⟩
        rcases List.mem_cons.mp hu with q | q
        · rw [q]; exact nz
        · exact ok u q
      · refine .inr ⟨i + 1, y, hi, oy, ny, fun u hu => ?_⟩
        rw [List.take_succ_cons] at hu
        rcases List.mem_cons.mp hu with q | q
        · exact ⟨z, q, nz⟩
        · exact ok u q
    · exact .inr ⟨0, x, rfl, ox, no, fun u hu => nomatch hu⟩
theorem Arg.dw {K : PySem.W.Frag} {C : Addr} {H : Hp} {v : V} (bi : Bi K C) (cl : Cls K C) (h : Arg C H v) : ∃ o, Dw K C H v o := by
  rcases h.ob.row bi cl with ⟨a, xs, rfl, ha⟩ | ⟨t, ty, no⟩
  · obtain ⟨ok, few⟩ := h.row a xs rfl ha
    have r : RowAt K H a xs := ha.elim RowAt.lst RowAt.tup
    rcases first_bad bi cl ok with ⟨hs, rfl, nm⟩ | ⟨i, x, hi, ox, nx, pre⟩
    · exact ⟨_, .good r (by rw [List.length_map] at few; exact few) nm⟩
    · exact ⟨_, .bad r few hi ox nx pre⟩
  · exact ⟨_, .out h.ob ty no⟩
theorem Arg.same {C : Addr} {H H' : Hp} {v : V} (h : Arg C H v) (k : Same H H') : Arg C H' v := by
  refine ⟨h.ob.same k, fun a xs e ha => ?_⟩
  subst e
  have fin : ∀ {ys : List V}, (H a = some (.lst ys) ∨ H a = some (.tup ys)) → ys = xs → (∀ x ∈ xs, Ob C H' x) ∧ xs.length ≤ 60 := fun {ys} q e => by
    obtain ⟨ok, few⟩ := h.row a ys rfl q
    rw [← e]
    exact ⟨fun x hx => (ok x hx).same k, few⟩
  have ob := h.ob
  generalize ev : V.ref a = v at ob
  cases ob with
  | non => cases ev
  | bl b => cases ev
  | int i => cases ev
  | str z h => cases ev
  | lst q =>
    cases ev
    have := k _ _ q
    rcases ha with ha | ha
    · rw [this] at ha
      cases ha
      exact fin (.inl q) rfl
    · rw [this] at ha; cases ha
  | tup q =>
    cases ev
    have := k _ _ q
    rcases ha with ha | ha
    · rw [this] at ha; cases ha
    · rw [this] at ha
      cases ha
      exact fin (.inr q) rfl
  | dic q nd =>
    cases ev
    have := k _ _ q
    rcases ha with ha | ha <;> rw [this] at ha <;> cases ha
  | @vw A d i =>
    have e : a = A.p := by injection ev
    subst e
    have := k _ _ i.ins
    rcases ha with ha | ha <;> rw [this] at ha <;> cases ha
/-- no row at all -/
theorem Arg.flat {C : Addr} {H : Hp} {v : V} (ob : Ob C H v) (no : ∀ a, v ≠ .ref a) : Arg C H v := ⟨ob, fun a _ e _ => absurd e (no a)⟩
theorem Arg.lst {C : Addr} {H : Hp} {a : Addr} {xs : List V} (h : H a = some (.lst xs)) (ok : ∀ x ∈ xs, Ob C H x) (few : xs.length ≤ 60) : Arg C H (.ref a) := by
  refine ⟨.lst h, fun b ys e q => ?_⟩
  cases e
  rcases q with q | q
  · rw [h] at q
    cases q
    exact ⟨ok, few⟩
  · rw [h] at q; cases q
theorem Arg.tup {C : Addr} {H : Hp} {a : Addr} {xs : List V} (h : H a = some (.tup xs)) (ok : ∀ x ∈ xs, Ob C H x) (few : xs.length ≤ 60) : Arg C H (.ref a) := by
  refine ⟨.tup h, fun b ys e q => ?_⟩
  cases e
  rcases q with q | q
  · rw [h] at q; cases q
  · rw [h] at q
    cases q
    exact ⟨ok, few⟩
theorem Arg.other {C : Addr} {H : Hp} {a : Addr} {o : HO} (ob : Ob C H (.ref a)) (h : H a = some o) (n1 : ∀ xs, o ≠ .lst xs) (n2 : ∀ xs, o ≠ .tup xs) : Arg C H (.ref a) := by
  refine ⟨ob, fun b ys e q => ?_⟩
  cases e
  rcases q with q | q <;> rw [h] at q
  · exact absurd (Option.some.inj q) (n1 _)
  · exact absurd (Option.some.inj q) (n2 _)
end Lw

namespace Lw
open PySem PySem.Spec PyProof.Rows L2 Txs Ers
open C8 (pe_gc)
/-! ### checks of words that may raise; views that are made of them -/
/-- the error leaves, its dict new -/
def leaves (CV CW : Addr) (H : Hp) (b : Bool) (x : V) (E : XK) : Prop := ∀ H' d, Same H H' → H' d = none → E (.ref (if b = true then CW else CV)) (some d) (L2.upd H' d (.xd [("value", x)]))
theorem leaves.same {CV CW : Addr} {H H1 : Hp} {b : Bool} {x : V} {E : XK} (h : leaves CV CW H b x E) (k : Same H H1) : leaves CV CW H1 b x E := fun H' d m n => h H' d (k.trans m) n
def spWordsX (K : PySem.W.Frag) (C CV CW : Addr) : Sp := fun vs H Q E => ∃ v o, vs = [v] ∧ Dw K C H v o ∧ (∀ hs, o = .good hs → ∀ H', Same H H' → Q .non H') ∧ ∀ b x, o = .bad b x → leaves CV CW H b x E
def spViewX (K : PySem.W.Frag) (C CV CW : Addr) : Sp := fun vs H Q E => ∃ (p dx : Addr) (sv hv : V) (es : List (PySem.Str × PySem.Str)) (o : Out), vs = [.ref p, sv, hv] ∧ H p = some (.ins C dx []) ∧
  ((sv = .non ∧ es = []) ∨ ∃ a, sv = .ref a ∧ H a = some (.dK (sgV es))) ∧ (es.map (·.1)).Nodup ∧ (∀ e ∈ es, Nm e.1 ∧ Nm e.2) ∧ es.length ≤ 100 ∧ Dw K C H hv o ∧
  (∀ hs, o = .good hs → ∀ (A : VwAt) (d : Vw) H', A.p = p → A.dx = dx → (∀ l ∈ A.lists, H l = none) → But p H H' → IsVw C H' A d → d.sights = es → (∀ x, x ∈ d.holds ↔ x ∈ hs) → Q .non H') ∧ ∀ b x, o = .bad b x → leaves CV CW H b x E
/-- each word seen as itself -/
def Selfs (es : List (PySem.Str × PySem.Str)) (ws : List PySem.Str) : Prop := (es.map (·.1)).Nodup ∧ (∀ e ∈ es, e.2 = e.1 ∧ e.1 ∈ ws) ∧ ∀ x ∈ ws, (x, x) ∈ es
def spSeeingX (K : PySem.W.Frag) (C CV CW : Addr) : Sp := fun vs H Q E => ∃ (wv hv : V) (o : Out), vs = [wv, hv] ∧ Dw K C H wv o ∧ (∀ b x, o = .bad b x → leaves CV CW H b x E) ∧ ∀ ws, o = .good ws → ∃ o2, Dw K C H hv o2 ∧ (∀ b x, o2 = .bad b x → leaves CV CW H b x E) ∧
  ∀ hs, o2 = .good hs → ∀ (B : VwAt) (e : Vw) H', H B.p = none → Same H H' → IsVw C H' B e → Selfs e.sights ws → (∀ x, x ∈ e.holds ↔ x ∈ hs) → Q (.ref B.p) H'
theorem sx_has (es : List (PySem.Str × PySem.Str)) (x y : PySem.Str) : (x, y) ∈ setS es x y := by
  unfold setS
  split
  · rename_i h
    obtain ⟨e, he, q⟩ := List.any_eq_true.mp h
    exact List.mem_map.mpr ⟨e, he, by rw [if_pos (of_decide_eq_true q), of_decide_eq_true q]⟩
  · simp
theorem sx_keep {es : List (PySem.Str × PySem.Str)} {x y : PySem.Str} {e : PySem.Str × PySem.Str} (h : e ∈ es) (n : e.1 ≠ x) : e ∈ setS es x y := by
  unfold setS
  split
  · exact List.mem_map.mpr ⟨e, h, by rw [if_neg n]⟩
  · exact List.mem_append.mpr (.inl h)
section
variable {P : Program} {w : World} {K : PySem.W.Frag} {mg : PySem.Str → Option Value} {base : Heap} {C CV CW : Addr}
end
end Lw

namespace Lw
open PySem PySem.Spec PyProof.Rows L2 Txs Ers
open C8 (pe_gc)
/-! ### the law's objects and questions about them -/
/-- == of a built-in value with itself, or of an instance by its own == -/
theorem op_sv {X : Cx} {k j : Nat} {C : Addr} {sp : Sp} (o : Oq X.prog X.w X.K X.mg X.base k C sp) (hr : Room j X.A) (hk : k ≤ j) : OpR X (compareOp .Eq) (fun x y H Q => Sms.rSelf X.K x y H Q ∨ Cmps.rEqI X.K C sp false x y H Q) := Cmps.OpR.or (Sms.op_self hr.units0) (op_oq o hr hk)
theorem but_free {a p : Addr} {H H' : Hp} (b : But a H H') (s : Stm H' a) (n : H' p = none) : H p = none := by
  cases q : H p with
  | none => rfl
  | some o =>
    by_cases e : p = a
    · subst e
      obtain ⟨x, y, z, e⟩ := s
      rw [e] at n; cases n
    · have := b _ _ q e
      rw [this] at n; cases n
theorem stm_ne {H : Hp} {a p : Addr} (s : Stm H a) (n : H p = none) : p ≠ a := fun e => by
  obtain ⟨x, y, z, q⟩ := s
  rw [e, q] at n; cases n
/-- stays what it is, whatever becomes of the objects of H -/
def Stays (C : Addr) (H H' : Hp) (v : V) : Prop := ∀ D o, (∃ u, H D = some u) → Ob C (L2.upd H' D o) v
/-- is it a name, asked with an object of its own -/
def spNameM (K : PySem.W.Frag) : Sp := fun vs H Q _ => (∃ z, vs = [.str z] ∧ z.length ≤ sizeLine ∧ ∀ H', Same H H' → Q (.bl (nmB z)) H') ∨ ∃ x t, vs = [x] ∧ TyX K H x t ∧ PySem.W.kitOne K t (.type "str") = some false ∧ ∀ H', Same H H' → Q (.bl false) H'
def spDeep (C : Addr) : Sp := fun vs H Q _ => ∃ a, vs = [.ref a] ∧ Stm H a ∧ ∀ p xs H', H p = none → But a H H' → Stm H' a → H' p = some (.lst xs) → (∀ x ∈ xs, Ob C H' x) → xs.length ≤ 1 → Q (.ref p) H'
def spOdd (C : Addr) : Sp := fun vs H Q _ => ∃ a, vs = [.ref a] ∧ Stm H a ∧ ∀ v H', But a H H' → Stm H' a → Arg C H' v → Stays C H H' v → Q v H'
def kindS (b : Bool) : PySem.Str := if b = true then "word" else "view"
def spLDue (K : PySem.W.Frag) (C : Addr) : Sp := fun vs H Q _ => ∃ v o, vs = [v] ∧ Dw K C H v o ∧ (∀ hs, o = .good hs → ∀ H', Same H H' → Q .non H') ∧ ∀ b x, o = .bad b x → ∀ q H', Same H H' → H q = none → H' q = some (.tup [.str (kindS b), x]) → Q (.ref q) H'
def spLSame (C : Addr) : Sp := fun vs H Q _ => ∃ p q s x, vs = [.ref p, .ref q] ∧ H p = some (.tup [.str s, x]) ∧ H q = some (.tup [.str s, x]) ∧ Ob C H x ∧ Q (.bl true) H
def spRow (C : Addr) : Sp := fun vs H Q _ => ∃ (a n : Addr) (ws : List PySem.Str), vs = [.ref a, .ref n] ∧ Stm H a ∧ n ≠ a ∧ H n = some (.lst (ws.map V.str)) ∧ ws.length = 12 ∧ (∀ w ∈ ws, Nm w) ∧ ∀ v H', But a H H' → Stm H' a → Arg C H' v → Q v H'
def told (H : Hp) (Q : VK) (b : Bool) (x : V) : Prop := ∀ q H', Same H H' → H q = none → H' q = some (.tup [.str (kindS b), x]) → Q (.ref q) H'
def spTold (K : PySem.W.Frag) (C : Addr) : Sp := fun vs H Q _ => ∃ wv hv lo o, vs = [wv, hv, .bl lo] ∧ Dw K C H wv o ∧ (∀ b x, o = .bad b x → told H Q b x) ∧ ∀ ws, o = .good ws → ∃ o2, Dw K C H hv o2 ∧ (lo = true → o2 = .good []) ∧ (∀ b x, o2 = .bad b x → told H Q b x) ∧
  ∀ hs, o2 = .good hs → ∀ q (B : VwAt) (e : Vw) H', H q = none → Same H H' → H' q = some (.tup [.str "done", .ref B.p]) → IsVw C H' B e → Selfs e.sights ws → (∀ x, x ∈ e.holds ↔ x ∈ hs) → Q (.ref q) H'
theorem ob_nm {C : Addr} {H : Hp} {z : PySem.Str} (h : Nm z) : Ob C H (.str z) := .str z (Nat.le_trans h.2.1 (by decide))
theorem arg_flat {C : Addr} {H : Hp} {v : V} (ob : Ob C H v) (f : flatB v = true) : Arg C H v := Arg.flat ob fun a e => by
  rw [e] at f; cases f
theorem nm_a : Nm "a" := nmB_iff.1 (by decide +kernel)
theorem nm_b : Nm "b" := nmB_iff.1 (by decide +kernel)
section
variable {P : Program} {w : World} {K : PySem.W.Frag} {mg : PySem.Str → Option Value} {base : Heap} {C CV CW cs : Addr}
theorem ok_lname (T : Bt mg) {f : Addr} {fd : FuncData} (F : FunD K "_law_is_name" "_law_is_name" (defArgs s_law_is_name) (defBody s_law_is_name) (defScope s_law_is_name) [] [] f fd) : FnOk P w K mg base CX0 1 f fd ["_law_value"] (spNameM K) := by
  refine F.ok sc_law_is_name (fun vs H Q E h => ?_) (fun cdv A outer s H vs Q E hr h => ?_)
  · rcases h with ⟨z, rfl, _⟩ | ⟨x, t, rfl, _⟩ <;> rfl
  · refine ⟨_, PSs.nox (pss_cons (ps_if (PW.pt (pw_or (pt_not (pt_val (pe_callB call_isi (by rfl) T.b_isinstance (by decide +kernel) (pa_cons (pv 0) (pa_cons (pe_bltn (v := .ty "str") (by rfl) T.b_str (by decide +kernel) rfl) pa_nil))))) (pw_or1 (pt_not (pt_chain op_le op_le pe_int (pe_callB call_len_str (by rfl) T.b_len PySem.boot_len (pa_cons (pv 0) pa_nil)) pe_int))))) (pss_one (ps_ret pe_bl)) pss_nil) (pss_one (ps_ret (pe_callB (cr_all rfl) (by rfl) T.b_all (by decide +kernel) (pa_cons (pe_lc (own := [("_law_char", 1)]) (tt := tYes) rfl sc_law_is_name.nd (pi_str (pv 0)) (blkOk_by (N := N_law_is_name) (sc := defScope s_law_is_name) (by decide +kernel)) (fun _ _ _ _ _ => (pg_name (i := 1) sc_law_is_name.nd rfl (Or.inl rfl))) (fun _ _ _ _ _ => pts_nil) (fun _ _ _ _ _ => (pe_cmpR op_in_sign (pv 1) pe_str (by rfl)))) pa_nil))))), ?_⟩
    rcases h with ⟨z, rfl, lz, q⟩ | ⟨x, t, rfl, ty, e1, q⟩
    · refine ⟨_, rfl, _, _, _, _, true, rfl, .ty _, .base (.str z), kit_ty (by decide +kernel), true, rfl, iteF ?_⟩
      refine ⟨_, rfl, z, rfl, lz, _, _, rfl, rfl, _, rfl, ?_⟩
      unfold nmB at q
      by_cases h1 : 1 ≤ (z.length : Int)
      · rw [decide_eq_true h1] at q ⊢
        refine iteT ⟨_, _, rfl, rfl, _, rfl, ?_⟩
        by_cases h2 : (z.length : Int) ≤ 12
        · rw [decide_eq_true h2] at q ⊢
          refine iteF ?_
          refine ⟨_, rfl, z, rfl, fun D hD => lc_it walk_str (fun i H' => Same H H' ∧ H' D = some (.lst (((z.cps.toList.take i).map fun c => decide (c ∈ abc.cps.toList)).map V.bl))) ?_ (fun _ _ _ _ => trivial) ?_ ?_⟩
          · exact ⟨same_new (Same.refl _) hD, upd_same⟩
          · rintro i x H1 H2 hi ⟨sm, hl⟩ ⟨rfl, c, hc, rfl⟩
            have hc' : z.cps.toList[i]? = some c := by rw [Array.getElem?_toList]; exact hc
            refine ⟨rfl, _, rfl, c, abc, rfl, rfl, _, hl, ?_, same_put sm hD, ?_⟩
            · rw [List.length_map, List.length_map]
              refine small1000 (Nat.le_trans (List.length_take_le _ _) ?_)
              have : i < z.cps.size := hi
              have : z.cps.size ≤ 12 := by
                have : (z.cps.size : Int) ≤ 12 := h2
                omega
              omega
            · rw [upd_same, List.take_add_one, hc', List.map_append, List.map_append]
              rfl
          · rintro H1 ⟨sm, hl⟩
            rw [show z.cps.toList.take z.cps.size = z.cps.toList from List.take_of_length_le (by simp)] at hl
            refine ⟨D, _, rfl, SqL.of hl, ?_⟩
            rw [List.all_map]
            exact q H1 sm
        · rw [decide_eq_false h2] at q ⊢
          exact iteT (q H (Same.refl _))
      · rw [decide_eq_false h1] at q ⊢
        exact iteF ⟨_, rfl, iteT (q H (Same.refl _))⟩
    · exact ⟨_, rfl, _, _, _, _, false, rfl, .ty _, ty, e1, false, rfl, iteT (q H (Same.refl _))⟩
theorem cl_lname (T : Bt mg) (a : At K mg "_law_is_name" s_law_is_name) : Cl P w K mg base 1 "_law_is_name" (spNameM K) [] := a.cal (ps := ["_law_value"]) (fun _ _ F => ok_lname T F) (fun _ _ _ _ _ _ us hl => match us, hl with | [_], _ => rfl)
end
end Lw

namespace Lw
open PySem PySem.Spec PyProof.Rows L2 Txs
open C8 (pe_gc)
/-! ### runs of a plant, what a view sees of them -/
theorem opInN (P : Program) (w : World) {X : Cx} (hp : X.prog = P := by rfl) (hw : X.w = w := by rfl) : OpR X (compareOp .In) (rInN P w) := by
  subst hp
  subst hw
  exact op_inN
def endOf (s0 : Int) (us : List Tr) : Int := ((us.getLast?).map (·.2.2)).getD s0
theorem endOf_nil (s0 : Int) : endOf s0 [] = s0 := rfl
theorem endOf_snoc (s0 : Int) (us : List Tr) (t : Tr) : endOf s0 (us ++ [t]) = t.2.2 := by
  unfold endOf
  rw [List.getLast?_concat]
  rfl
structure RunOk (ts : List Tr) (s0 : Int) (ns : List Nat) (us : List Tr) : Prop where
  len : ns.length = us.length
  at_ : ∀ (i n : Nat), ns[i]? = some n → ∃ t, us[i]? = some t ∧ ts[n]? = some t ∧ t.1 = endOf s0 (us.take i)
theorem RunOk.nil (ts : List Tr) (s0 : Int) : RunOk ts s0 [] [] := ⟨rfl, fun i n h => by simp at h⟩
theorem RunOk.take {ts : List Tr} {s0 : Int} {ns : List Nat} {us : List Tr} (h : RunOk ts s0 ns us) (k : Nat) : RunOk ts s0 (ns.take k) (us.take k) := by
  refine ⟨by rw [List.length_take, List.length_take, h.len], fun i n hi => ?_⟩
  rw [List.getElem?_take] at hi
  split at hi
  · rename_i il
    obtain ⟨t, h1, h2, h3⟩ := h.at_ i n hi
    refine ⟨t, by rw [List.getElem?_take, if_pos il]; exact h1, h2, ?_⟩
    rw [List.take_take, Nat.min_eq_left (by omega)]
    exact h3
  · cases hi
theorem RunOk.snoc {ts : List Tr} {s0 : Int} {ns : List Nat} {us : List Tr} {n : Nat} {t : Tr} (h : RunOk ts s0 ns us) (e : ts[n]? = some t) (l : t.1 = endOf s0 us) : RunOk ts s0 (ns ++ [n]) (us ++ [t]) := by
  refine ⟨by rw [List.length_append, List.length_append, h.len]; rfl, fun i m hi => ?_⟩
  by_cases q : i < ns.length
  · rw [List.getElem?_append_left q] at hi
    obtain ⟨u, h1, h2, h3⟩ := h.at_ i m hi
    refine ⟨u, by rw [List.getElem?_append_left (by rw [← h.len]; exact q)]; exact h1, h2, ?_⟩
    rw [List.take_append_of_le_length (by rw [← h.len]; omega)]
    exact h3
  · have il : i = ns.length := by
      have := (List.getElem?_eq_some_iff.mp hi).1
      rw [List.length_append] at this
      simp only [List.length_singleton] at this
      omega
    subst il
    rw [List.getElem?_append_right (Nat.le_refl _), Nat.sub_self] at hi
    cases hi
    refine ⟨t, ?_, e, ?_⟩
    · rw [h.len, List.getElem?_append_right (Nat.le_refl _), Nat.sub_self]
      rfl
    · rw [h.len, List.take_append_of_le_length (Nat.le_refl _), List.take_length]
      exact l
def runV (ns : List Nat) : List V := ns.map fun n : Nat => V.int (n : Int)
theorem run_at {ns : List Nat} {i : Nat} {x : V} (h : (runV ns)[i]? = some x) : ∃ n, ns[i]? = some n ∧ x = V.int (n : Int) := by
  unfold runV at h
  rw [List.getElem?_map] at h
  cases z : ns[i]? with
  | none => rw [z] at h; cases h
  | some q => rw [z] at h; exact ⟨q, rfl, (Option.some.inj h).symm⟩
theorem run_len (ns : List Nat) : (runV ns).length = ns.length := by unfold runV; rw [List.length_map]
/-- the sight of a word, by a table -/
def look (es : List (PySem.Str × PySem.Str)) (w : PySem.Str) : Option PySem.Str := (es.find? fun e => decide (e.1 = w)).map (·.2)
theorem look_val (es : List (PySem.Str × PySem.Str)) (w : PySem.Str) : valV (sgV es) (.inr w : Key) = (look es w).map V.str := by
  induction es with
  | nil => rfl
  | cons e es ih =>
    show valV (((.inr e.1 : Key), V.str e.2) :: sgV es) (.inr w) = _
    by_cases q : (.inr e.1 : Key) = .inr w
    · have q' : e.1 = w := by simpa [inr_eq] using q
      rw [valV_pos q]
      unfold look
      rw [List.find?_cons, decide_eq_true q']
      rfl
    · have q' : ¬ e.1 = w := by simpa [inr_eq] using q
      rw [valV_neg q, ih]
      unfold look
      rw [List.find?_cons, decide_eq_false q']
def seen (es : List (PySem.Str × PySem.Str)) (us : List Tr) : List PySem.Str := us.filterMap fun t => look es t.2.1
theorem seen_snoc (es : List (PySem.Str × PySem.Str)) (us : List Tr) (t : Tr) : seen es (us ++ [t]) = seen es us ++ (look es t.2.1).toList := by
  unfold seen
  rw [List.filterMap_append]
  cases q : look es t.2.1 with
  | none => simp [List.filterMap_cons, q]
  | some y => simp [List.filterMap_cons, q]
theorem seen_len (es : List (PySem.Str × PySem.Str)) (us : List Tr) : (seen es us).length ≤ us.length := by
  unfold seen
  exact List.length_filterMap_le _ _
def spIsIndex : Sp := fun vs H Q _ => ∃ i j : Int, vs = [.int i, .int j] ∧ Q (.bl (decide (0 ≤ i) && decide (i < j))) H
/-- a run of a plant in the heap -/
structure RunAt (C : Addr) (H : Hp) (A : PlAt) (d : Pl) (r : Addr) (ns : List Nat) (us : List Tr) : Prop where
  pl : IsPl C H A d
  at_ : H r = some (.tup (runV ns))
  ok : RunOk d.steps d.start ns us
  few : ns.length ≤ 100
theorem RunAt.same {C : Addr} {H H' : Hp} {A : PlAt} {d : Pl} {r : Addr} {ns : List Nat} {us : List Tr} (h : RunAt C H A d r ns us) (k : Same H H') : RunAt C H' A d r ns us := ⟨h.pl.same k, k _ _ h.at_, h.ok, h.few⟩
def spStepsOf (C : Addr) : Sp := fun vs H Q _ => ∃ A d r ns us, vs = [.ref A.p, .ref r] ∧ RunAt C H A d r ns us ∧ ∀ q qs H', Same H H' → H q = none → H' q = some (.lst (qs.map V.ref)) → Laid H' qs us → Q (.ref q) H'
def spEndOf (C : Addr) : Sp := fun vs H Q _ => ∃ A d r ns us, vs = [.ref A.p, .ref r] ∧ RunAt C H A d r ns us ∧ ∀ H', Same H H' → Q (.int (endOf d.start us)) H'
def spIsWanted (C : Addr) : Sp := fun vs H Q _ => ∃ A d r ns us, vs = [.ref A.p, .ref r] ∧ RunAt C H A d r ns us ∧ ∀ H', Same H H' → Q (.bl (ns.all fun n : Nat => decide ((n : Int) ∈ d.wanted))) H'
def spSightsOf (C CV : Addr) : Sp := fun vs H Q _ => ∃ (A : PlAt) (d : Pl) (B : VwAt) (e : Vw) (r : Addr) (ns : List Nat) (us : List Tr), vs = [.ref A.p, .ref B.p, .ref r] ∧ RunAt C H A d r ns us ∧ IsVw CV H B e ∧ ∀ q H', Same H H' → H q = none → H' q = some (.lst ((seen e.sights us).map V.str)) → Q (.ref q) H'
section
variable {P : Program} {w : World} {K : PySem.W.Frag} {mg : PySem.Str → Option Value} {base : Heap} {C CV : Addr}
theorem ok_is_index (T : Bt mg) (c_is_integer : Cl P w K mg base 1 "is_integer" (spIsInt K) []) {f : Addr} {fd : FuncData} (F : FunD K "is_index" "is_index" (defArgs s_is_index) (defBody s_is_index) (defScope s_is_index) [] [] f fd) : FnOk P w K mg base CX0 2 f fd ["thing", "size"] spIsIndex := by
  refine F.ok sc_is_index (fun vs H Q E h => ?_) (fun cdv A outer s H vs Q E hr h => ?_)
  · obtain ⟨i, j, rfl, _⟩ := h
    rfl
  · obtain ⟨i, j, rfl, q⟩ := h
    refine ⟨_, PSs.nox (pss_one (ps_ret (pe_and (pe_cl c_is_integer hr (by decide) rfl (pa_cons (pv 0) pa_nil)) (pe_one (pe_chain op_le op_lt pe_int (pv 0) (pv 1)))))), ?_⟩
    refine ⟨_, rfl, ?_⟩
    refine ⟨_, _, true, false, rfl, .base (.int i), kit_ty (by decide +kernel), fun _ => kit_ty (by decide +kernel), true, rfl, ?_⟩
    refine ⟨_, rfl, _, _, rfl, rfl, _, rfl, ?_⟩
    by_cases h1 : 0 ≤ i
    · rw [decide_eq_true h1] at q ⊢
      exact iteT ⟨_, rfl, _, _, rfl, rfl, q⟩
    · rw [decide_eq_false h1] at q ⊢
      exact iteF q
theorem cl_is_index (T : Bt mg) (c_is_integer : Cl P w K mg base 1 "is_integer" (spIsInt K) []) (a : At K mg "is_index" s_is_index) : Cl P w K mg base 2 "is_index" spIsIndex [] := a.cal (ps := ["thing", "size"]) (fun _ _ F => ok_is_index T c_is_integer F) (fun _ _ _ _ _ _ us hl => match us, hl with | [_, _], _ => rfl)
theorem ok_steps_of (T : Bt mg) (c_is_index : Cl P w K mg base 2 "is_index" spIsIndex []) (p_Plant_start : Pr P w K mg base 1 C "start" (spPlStart C)) (p_Plant_steps : Pr P w K mg base 1 C "steps" (spPlSteps C)) {f : Addr} {fd : FuncData}
    (F : FunD K "steps_of" "steps_of" (defArgs s_steps_of) (defBody s_steps_of) (defScope s_steps_of) [] [] f fd) : FnOk P w K mg base CX0 3 f fd ["plant", "run"] (spStepsOf C) := by
  refine F.ok sc_steps_of (fun vs H Q E h => ?_) (fun cdv A0 outer s H vs Q E hr h => ?_)
  · obtain ⟨A, d, r, ns, us, rfl, _⟩ := h
    rfl
  · obtain ⟨A, d, r, ns, us, rfl, ra, k⟩ := h
    refine ⟨_, PSs.nox (pss_cons (ps_if (pt_not (pt_val (pe_callB call_isi (by rfl) T.b_isinstance (by decide +kernel) (pa_cons (pv 1) (pa_cons (pe_bltn (v := .ty "tuple") (by rfl) T.b_tuple (by decide +kernel) rfl) pa_nil))))) (pss_one ps_never) pss_nil) (pss_cons (ps_set (i := 2) sc_steps_of.nd rfl (Or.inl rfl) (pe_pr p_Plant_steps hr (by decide) (pv 0) rfl)) (pss_cons (ps_set (i := 3) sc_steps_of.nd rfl (Or.inl rfl) (pe_pr p_Plant_start hr (by decide) (pv 0) rfl)) (pss_cons (ps_set (i := 4) sc_steps_of.nd rfl (Or.inl rfl) (pe_lst pa_nil)) (pss_cons (ps_for PassesOwn.never rfl (pi_enumS rfl T.b_enumerate (pa_cons (pv 1) pa_nil)) (pg_tup rfl (pgs_cons (pg_name (i := 5) sc_steps_of.nd rfl (Or.inl rfl)) (pgs_cons (pg_name (i := 6) sc_steps_of.nd rfl (Or.inl rfl)) pgs_nil))) (pss_cons (ps_if (PW.pt (pw_or (pt_not (pt_val (pe_cl c_is_index hr (by decide) rfl (pa_cons (pv 6) (pa_cons (pe_callB call_len_seq (by rfl) T.b_len PySem.boot_len (pa_cons (pv 2) pa_nil)) pa_nil))))) (pw_or1 (pt_cmpR op_ne (pe_ix ix_tup (pe_ix ix_list (pv 2) (pv 6) (fun _ _ => rfl)) pe_int (fun _ _ => rfl)) (pv 3) (nomark _))))) (pss_one ps_never) pss_nil) (pss_cons (ps_expr (pe_bm PySem.F.plainAttrs_list PySem.F.slot_list_append PySem.F.type_list_append mt_append (pv 4) (pa_cons (pe_ix ix_list (pv 2) (pv 6) (fun _ _ => rfl)) pa_nil))) (pss_one (ps_set (i := 3) sc_steps_of.nd rfl (Or.inl rfl) (pe_ix ix_tup (pe_ix ix_list (pv 2) (pv 6) (fun _ _ => rfl)) pe_int (fun _ _ => rfl))))))) (pss_one (ps_ret (pv 4)))))))), ?_⟩
    refine ⟨_, rfl, _, _, _, _, true, rfl, .ty _, .base (.tup ra.at_), kit_ty (by decide +kernel), true, rfl, iteF ?_⟩
    refine ⟨_, rfl, A.p, A.dx, _, rfl, ra.pl.ins, A, d, rfl, ra.pl, fun ss q1 ls h1 => ?_⟩
    have m1 := same_new (Same.refl H) h1 (o := .lst (ss.map V.ref))
    have e1 : (L2.upd H q1 (.lst (ss.map V.ref))) q1 = some (.lst (ss.map V.ref)) := upd_same
    have l1 := ls.new h1 (o := .lst (ss.map V.ref))
    generalize L2.upd H q1 (.lst (ss.map V.ref)) = H1 at m1 e1 l1 ⊢
    have r1 := ra.same m1
    refine ⟨_, rfl, A.p, A.dx, _, rfl, r1.pl.ins, A, d, rfl, r1.pl, ?_⟩
    refine ⟨Nat.zero_le _, fun q hq => ?_⟩
    have us100 : us.length ≤ 100 := by rw [← ra.ok.len]; exact ra.few
    refine ⟨_, rfl, r, rfl, for_enum (K := K) (xs := runV ns) (.inr (SqT.of r1.at_)) (fun i σ H' => ∃ (qs : List Addr) (v5 v6 : Option V), σ = [some (.ref A.p), some (.ref r), some (.ref q1), some (.int (endOf d.start (us.take i))), some (.ref q), v5, v6] ∧ Same H1 H' ∧ H' q = some (.lst (qs.map V.ref)) ∧ Laid H' qs (us.take i) ∧ qs.length ≤ i) ?_ ?_ ?_ ?_⟩
    · exact ⟨[], _, _, rfl, same_new (Same.refl _) hq, upd_same, .nil, Nat.le_refl _⟩
    · rintro i σ' H' _ ⟨_, _, _, _, sm, _⟩ o e
      exact sm _ _ e
    · rintro i x σ' H2 Tp hx ⟨qs, v5, v6, rfl, sm, hl, la, le⟩ hT
      obtain ⟨n, hn, rfl⟩ := run_at hx
      obtain ⟨t, ht, hst, lk⟩ := ra.ok.at_ i n hn
      have il : i < us.length := (List.getElem?_eq_some_iff.mp ht).1
      obtain ⟨qa, ha, hqa⟩ := l1.at_ hst
      have nl : n < ss.length := (List.getElem?_eq_some_iff.mp ha).1
      have at1 : atI (ss.map V.ref) (n : Int) = some (.ref qa) := atI_nat (by rw [List.getElem?_map, ha]; rfl)
      have m2 := same_new sm hT (o := .tup [.int (i : Nat), .int (n : Int)])
      have nT : q ≠ Tp := ne_of_none hl hT
      refine ⟨Tp, _, rfl, SqT.of upd_same, rfl, _, _, rfl, _, _, rfl, rfl, ?_⟩
      have hl3 : (L2.upd H2 Tp (.tup [.int (i : Nat), .int (n : Int)])) q = some (.lst (qs.map V.ref)) := by rw [upd_ne nT]; exact hl
      have la3 := la.new hT (o := .tup [.int (i : Nat), .int (n : Int)])
      generalize L2.upd H2 Tp (.tup [.int (i : Nat), .int (n : Int)]) = H3 at m2 hl3 la3 ⊢
      have s3 := m2 _ _ e1
      have q3 := m2 _ _ hqa
      refine ⟨_, rfl, _, rfl, q1, _, rfl, .inl (SqL.of s3), _, _, rfl, ?_⟩
      rw [decide_eq_true (show (0 : Int) ≤ (n : Int) by omega), decide_eq_true (show (n : Int) < ((ss.map V.ref).length : Int) by rw [List.length_map]; omega)]
      refine ⟨true, rfl, iteF ?_⟩
      refine ⟨_, rfl, _, rfl, q1, _, _, .ref qa, rfl, rfl, SqL.of s3, at1, qa, _, _, .int t.1, rfl, rfl, SqT.of q3, rfl, _, rfl, rfl, _, rfl, ?_⟩
      rw [lk]
      refine iteNS rfl ?_
      refine ⟨_, rfl, .inl ⟨rfl, _, SqL.of hl3⟩, _, rfl, _, rfl, q1, _, _, .ref qa, rfl, rfl, SqL.of s3, at1, q, _, _, rfl, rfl, hl3, by rw [List.length_map]; exact small1000 (by omega), ?_⟩
      have m4 : Same H1 (L2.upd H3 q (.lst (qs.map V.ref ++ [.ref qa]))) := same_put m2 hq
      have s4 := m4 _ _ e1
      have q4 := m4 _ _ hqa
      refine ⟨_, rfl, _, rfl, q1, _, _, .ref qa, rfl, rfl, SqL.of s4, at1, qa, _, _, .int t.2.2, rfl, rfl, SqT.of q4, rfl, qs ++ [qa], some (.int (i : Nat)), some (.int (n : Int)), ?_, m4, by rw [List.map_append]; exact upd_same, ?_, by rw [List.length_append]; show qs.length + 1 ≤ i + 1; omega⟩
      · rw [take_at ht, endOf_snoc]
        rfl
      · rw [take_at ht]
        exact (la3.put hl3).snoc q4
    · rintro σ' H2 ⟨qs, v5, v6, rfl, sm, hl, la, le⟩
      rw [run_len, ra.ok.len, List.take_length] at la
      exact ⟨_, rfl, k q qs H2 (m1.trans sm) (m1.free hq) hl la⟩
theorem cl_steps_of (T : Bt mg) (c_is_index : Cl P w K mg base 2 "is_index" spIsIndex []) (p_Plant_start : Pr P w K mg base 1 C "start" (spPlStart C)) (p_Plant_steps : Pr P w K mg base 1 C "steps" (spPlSteps C)) (a : At K mg "steps_of" s_steps_of) : Cl P w K mg base 3 "steps_of" (spStepsOf C) [] := a.cal (ps := ["plant", "run"]) (fun _ _ F => ok_steps_of T c_is_index p_Plant_start p_Plant_steps F) (fun _ _ _ _ _ _ us hl => match us, hl with | [_, _], _ => rfl)
theorem ok_end_of (T : Bt mg) (c_steps_of : Cl P w K mg base 3 "steps_of" (spStepsOf C) []) (p_Plant_start : Pr P w K mg base 1 C "start" (spPlStart C)) {f : Addr} {fd : FuncData} (F : FunD K "end_of" "end_of" (defArgs s_end_of) (defBody s_end_of) (defScope s_end_of) [] [] f fd) : FnOk P w K mg base CX0 4 f fd ["plant", "run"] (spEndOf C) := by
  refine F.ok sc_end_of (fun vs H Q E h => ?_) (fun cdv A0 outer s H vs Q E hr h => ?_)
  · obtain ⟨A, d, r, ns, us, rfl, _⟩ := h
    rfl
  · obtain ⟨A, d, r, ns, us, rfl, ra, k⟩ := h
    refine ⟨_, PSs.nox (pss_cons (ps_set (i := 2) sc_end_of.nd rfl (Or.inl rfl) (pe_cl c_steps_of hr (by decide) rfl (pa_cons (pv 0) (pa_cons (pv 1) pa_nil)))) (pss_cons (ps_if (pt_not (pt_truth (pv 2) (by intro _; rfl))) (pss_one (ps_ret (pe_pr p_Plant_start hr (by decide) (pv 0) rfl))) pss_nil) (pss_one (ps_ret (pe_ix ix_tup (pe_ix ix_list (pv 2) (pe_un un_neg pe_int) (fun _ _ => rfl)) pe_int (fun _ _ => rfl)))))), ?_⟩
    refine ⟨_, rfl, _, rfl, A, d, r, ns, us, rfl, ra, fun q qs H1 m1 f1 hl la => ?_⟩
    refine ⟨_, rfl, _, .inl ⟨_, SqL.of hl, rfl⟩, ?_⟩
    have ll := la.len
    rcases List.eq_nil_or_concat us with e | ⟨up, t, e⟩
    · subst e
      have eq : qs = [] := List.eq_nil_of_length_eq_zero (by simpa using ll)
      subst eq
      have i1 := ra.pl.same m1
      exact iteT ⟨_, rfl, A.p, A.dx, _, rfl, i1.ins, A, d, rfl, i1, k H1 m1⟩
    · have e : us = up ++ [t] := by rw [e]; simp
      subst e
      rcases List.eq_nil_or_concat qs with e2 | ⟨qp, qa, e2⟩
      · rw [e2] at ll
        simp at ll
      have e2 : qs = qp ++ [qa] := by rw [e2]; simp
      subst e2
      obtain ⟨u, hu, hqa⟩ := la.at' (i := qp.length) (a := qa) (by simp)
      have pl : qp.length = up.length := by simpa using ll
      rw [pl] at hu
      have eu : u = t := by
        have : (up ++ [t])[up.length]? = some t := by simp
        rw [this] at hu
        exact (Option.some.inj hu).symm
      subst eu
      have ne : (!((qp ++ [qa]).map V.ref).isEmpty) = true := by simp
      rw [ne]
      refine iteF ⟨_, rfl, _, rfl, q, _, _, .ref qa, rfl, rfl, SqL.of hl, by rw [List.map_append]; exact atI_last _ _, qa, _, _, .int u.2.2, rfl, rfl, SqT.of hqa, rfl, ?_⟩
      have := k H1 m1
      rw [endOf_snoc] at this
      exact this
theorem cl_end_of (T : Bt mg) (c_steps_of : Cl P w K mg base 3 "steps_of" (spStepsOf C) []) (p_Plant_start : Pr P w K mg base 1 C "start" (spPlStart C)) (a : At K mg "end_of" s_end_of) : Cl P w K mg base 4 "end_of" (spEndOf C) [] := a.cal (ps := ["plant", "run"]) (fun _ _ F => ok_end_of T c_steps_of p_Plant_start F) (fun _ _ _ _ _ _ us hl => match us, hl with | [_, _], _ => rfl)
theorem ok_sights_of (T : Bt mg) (c_steps_of : Cl P w K mg base 3 "steps_of" (spStepsOf C) []) (p_View_sights : Pr P w K mg base 1 CV "sights" (spVwSights CV)) {f : Addr} {fd : FuncData} (F : FunD K "sights_of" "sights_of" (defArgs s_sights_of) (defBody s_sights_of) (defScope s_sights_of) [] [] f fd) : FnOk P w K mg base CX0 4 f fd ["plant", "view", "run"] (spSightsOf C CV) := by
  refine F.ok sc_sights_of (fun vs H Q E h => ?_) (fun cdv A0 outer s H vs Q E hr h => ?_)
  · obtain ⟨A, d, B, e, r, ns, us, rfl, _⟩ := h
    rfl
  · obtain ⟨A, d, B, e, r, ns, us, rfl, ra, iv, k⟩ := h
    have hu := hu_of hr
    refine ⟨_, PSs.nox (pss_cons (ps_set (i := 3) sc_sights_of.nd rfl (Or.inr rfl) (pe_pr p_View_sights hr (by decide) (pv 1) rfl)) (pss_one (ps_ret (pe_lc (own := [("step", 4)]) rfl sc_sights_of.nd (pi_list (pe_cl c_steps_of hr (by decide) rfl (pa_cons (pv 0) (pa_cons (pv 2) pa_nil)))) (blkOk_by (N := N_sights_of) (sc := defScope s_sights_of) (by decide +kernel)) (fun _ _ _ _ _ => (pg_name (i := 4) sc_sights_of.nd rfl (Or.inl rfl))) (fun _ _ _ _ _ => (pts_one (pt_cmp (pc_din hu (pe_ix (ixT K) (pv 4) pe_int (fun _ _ => rfl)) (pv 3))))) (fun _ _ _ _ _ => (pe_dget hu (pv 3) (pe_ix (ixT K) (pv 4) pe_int (fun _ _ => rfl)) (fun _ _ => rfl))))))), ?_⟩
    refine ⟨_, rfl, B.p, B.dx, _, rfl, iv.ins, B, e, rfl, iv, fun q1 h1 => ?_⟩
    have m1 := same_new (Same.refl H) h1 (o := .dK (sgV e.sights))
    have e1 : (L2.upd H q1 (.dK (sgV e.sights))) q1 = some (.dK (sgV e.sights)) := upd_same
    generalize L2.upd H q1 (.dK (sgV e.sights)) = H1 at m1 e1 ⊢
    refine ⟨_, rfl, _, rfl, A, d, r, ns, us, rfl, ra.same m1, fun q2 qs H2 m2 f2 hl la => ?_⟩
    have us100 : us.length ≤ 100 := by rw [← ra.ok.len]; exact ra.few
    refine ⟨q2, rfl, ⟨_, SqL.of hl⟩, fun D hD => lc_list (K := K) (xs := qs.map V.ref) (fun i H' => Same H2 H' ∧ H' D = some (.lst ((seen e.sights (us.take i)).map V.str))) ?_ ?_ ?_ ?_⟩
    · exact ⟨same_new (Same.refl _) hD, upd_same⟩
    · exact fun i H' _ ⟨sm, _⟩ => sm.seq (SqL.of hl)
    · rintro i x H' hx ⟨sm, hd⟩
      obtain ⟨q, hq, rfl⟩ := ref_at hx
      obtain ⟨t, ht, hqt⟩ := la.at' hq
      have il : i < us.length := (List.getElem?_eq_some_iff.mp ht).1
      have q3 := sm _ _ hqt
      have e3 := sm _ _ (m2 _ _ e1)
      refine ⟨rfl, _, rfl, q, _, _, .str t.2.1, rfl, rfl, SqT.of q3, rfl, _, rfl, q1, _, rfl, DGet.k (k := .inr t.2.1) e3, _, rfl, ?_⟩
      have lv := look_val e.sights t.2.1
      have sl := seen_len e.sights (us.take i)
      rw [List.length_take] at sl
      cases lq : look e.sights t.2.1 with
      | none =>
        rw [lq] at lv
        rw [lv]
        refine iteF ⟨sm, ?_⟩
        rw [take_at ht, seen_snoc, lq]
        simpa using hd
      | some y =>
        rw [lq] at lv
        have dg := DGet.k (k := .inr t.2.1) e3
        rw [lv] at dg ⊢
        refine iteT ⟨_, rfl, _, rfl, q, _, _, .str t.2.1, rfl, rfl, SqT.of q3, rfl, q1, .str y, rfl, dg, _, hd, by rw [List.length_map]; exact small1000 (by omega), same_put sm hD, ?_⟩
        rw [upd_same, take_at ht, seen_snoc, lq, List.map_append]
        rfl
    · rintro H' ⟨sm, hd⟩
      rw [List.length_map, la.len, List.take_length] at hd
      exact k D H' ((m1.trans m2).trans sm) ((m1.trans m2).free hD) hd
theorem cl_sights_of (T : Bt mg) (c_steps_of : Cl P w K mg base 3 "steps_of" (spStepsOf C) []) (p_View_sights : Pr P w K mg base 1 CV "sights" (spVwSights CV)) (a : At K mg "sights_of" s_sights_of) : Cl P w K mg base 4 "sights_of" (spSightsOf C CV) [] := a.cal (ps := ["plant", "view", "run"]) (fun _ _ F => ok_sights_of T c_steps_of p_View_sights F) (fun _ _ _ _ _ _ us hl => match us, hl with | [_, _, _], _ => rfl)
end
end Lw

namespace Lw
open PySem PySem.Spec PyProof.Rows L2 Txs
open C8 (pe_gc)
/-! ### drawn views, drawn runs: slots 0 _law_stream_here, 1 _law_words, 2 _law_sights, 3 _law_table, 4 _law_holds, 5 _law_word, 6 _law_kind -/
def spLView : Sp := fun vs H Q _ => ∃ (a b c : Addr) (ws zs : List PySem.Str), vs = [.ref a, .ref b, .ref c] ∧ Stm H a ∧ a ≠ b ∧ a ≠ c ∧ H b = some (.lst (ws.map V.str)) ∧ H c = some (.lst (zs.map V.str)) ∧ ws.length ≤ 20 ∧ zs.length ≤ 20 ∧ (∀ x ∈ ws, Nm x) ∧ (∀ x ∈ zs, Nm x) ∧
  ∀ (p t h : Addr) (es : List (PySem.Str × PySem.Str)) (hs : List PySem.Str) H', H p = none → H t = none → H h = none → But a H H' → Stm H' a → H' p = some (.tup [.ref t, .ref h]) → H' t = some (.dK (sgV es)) → H' h = some (.lst (hs.map V.str)) → (es.map (·.1)).Nodup → (∀ e ∈ es, Nm e.1 ∧ Nm e.2) → es.length ≤ ws.length → hs.length ≤ ws.length → (∀ x ∈ hs, Nm x) → Q (.ref p) H'
def pick (ts : List Tr) (s : Int) (n : Nat) : List Nat := (List.range n).filter fun k => match ts[k]? with
  | some t => decide (t.1 = s)
  | none => false
theorem pick_snoc {ts : List Tr} {s : Int} {n : Nat} {t : Tr} (h : ts[n]? = some t) : pick ts s (n + 1) = if t.1 = s then pick ts s n ++ [n] else pick ts s n := by
  unfold pick
  rw [List.range_succ, List.filter_append]
  by_cases e : t.1 = s
  · rw [if_pos e]
    simp [h, e]
  · rw [if_neg e]
    simp [h, e]
theorem pick_len (ts : List Tr) (s : Int) (n : Nat) : (pick ts s n).length ≤ n := by
  have := (List.filter_sublist (l := List.range n) (p := fun k => match ts[k]? with
    | some t => decide (t.1 = s)
    | none => false)).length_le
  rw [List.length_range] at this
  exact this
theorem pick_at {ts : List Tr} {s : Int} {n i k : Nat} (h : (pick ts s n)[i]? = some k) : ∃ t, ts[k]? = some t ∧ t.1 = s := by
  obtain ⟨_, e⟩ := List.mem_filter.mp (List.mem_of_getElem? h)
  cases q : ts[k]? with
  | none => rw [q] at e; cases e
  | some t => rw [q] at e; exact ⟨t, rfl, of_decide_eq_true e⟩
theorem run_ints (ns : List Nat) : runV ns = (ns.map fun n : Nat => (n : Int)).map V.int := by
  unfold runV
  rw [List.map_map]
  rfl
theorem two_more (a : Addr) (n : Nat) : [V.ref a, V.int (2 + (n : Int))] ++ [] = [V.ref a, V.int ((2 + n : Nat) : Int)] := by
  have e : (2 : Int) + (n : Int) = ((2 + n : Nat) : Int) := by omega
  rw [e]
  rfl
theorem but_same {st : Addr} {H H1 H2 : Hp} (m : Same H H1) (b : But st H1 H2) (f : H st = none) : Same H H2 := fun x o e => b x o (m x o e) (ne_of_none e f)
def spLRun (K : PySem.W.Frag) : Sp := fun vs H Q _ => ∃ (sa pa : Addr) (s : Int) (ns : List Int) (as : List Addr) (ts : List Tr), vs = [.ref sa, .ref pa, .int s] ∧ SqL K H sa (ns.map V.int) ∧ H pa = some (.lst (as.map V.ref)) ∧ Laid H as ts ∧ ts.length ≤ 60 ∧
  ∀ q rs us H', Same H H' → H q = none → H' q = some (.lst (runV rs)) → RunOk ts s rs us → rs.length ≤ 60 → Q (.ref q) H'
section
variable {P : Program} {w : World} {K : PySem.W.Frag} {mg : PySem.Str → Option Value} {base : Heap}
theorem ok_lview (T : Bt mg) (c_law_draw : Cl P w K mg base 1 "_law_draw" spDraw []) {f : Addr} {fd : FuncData} (F : FunD K "_law_view" "_law_view" (defArgs s_law_view) (defBody s_law_view) (defScope s_law_view) [] [] f fd) : FnOk P w K mg base CX0 2 f fd ["_law_stream_here", "_law_words", "_law_sights"] spLView := by
  refine F.ok sc_law_view (fun vs H Q E h => ?_) (fun cdv A0 outer s0 H vs Q E hr h => ?_)
  · obtain ⟨a, b, c, ws, zs, rfl, _⟩ := h
    rfl
  · obtain ⟨a, b, c, ws, zs, rfl, hS, nab, nac, hb, hc, w20, z20, okw, okz, k⟩ := h
    have hu := hu_of hr
    refine ⟨_, PSs.nox (pss_cons (ps_set (i := 3) sc_law_view.nd rfl (Or.inl rfl) pe_dnewK) (pss_cons (ps_set (i := 4) sc_law_view.nd rfl (Or.inl rfl) (pe_lst pa_nil)) (pss_cons (ps_for PassesOwn.never rfl (pi_list (pv 1)) (pg_name (i := 5) sc_law_view.nd rfl (Or.inl rfl)) (pss_cons (ps_set (i := 6) sc_law_view.nd rfl (Or.inl rfl) (pe_cl c_law_draw hr (by decide) rfl (pa_cons (pv 0) (pa_cons (pe_op op_add (pe_callB call_len_seq (by rfl) T.b_len PySem.boot_len (pa_cons (pv 2) pa_nil)) pe_int) pa_nil)))) (Evl.pss_cut (ps_if (pt_cmpR op_gt (pv 6) pe_int (nomark _)) (pss_one (ps_dput hu (pv 3) (pv 5) (pe_ix ix_list (pv 2) (pe_op op_sub (pv 6) pe_int) (fun _ _ => rfl)) rfl)) pss_nil) (pss_one (ps_if (pt_cmpR op_eq (pe_cl c_law_draw hr (by decide) rfl (pa_cons (pv 0) (pa_cons pe_int pa_nil))) pe_int (nomark _)) (pss_one (ps_expr (pe_bm PySem.F.plainAttrs_list PySem.F.slot_list_append PySem.F.type_list_append mt_append (pv 4) (pa_cons (pv 5) pa_nil)))) pss_nil))))) (pss_one (ps_ret (pe_tup (pa_cons (pv 3) (pa_cons (pv 4) pa_nil)))))))), ?_⟩
    intro t ht
    have nat_ : a ≠ t := by obtain ⟨x, y, z, e⟩ := hS; exact ne_of_none e ht
    have s1 := hS.new ht (o := .dK [])
    have t1 : (L2.upd H t (.dK [])) t = some (.dK []) := upd_same
    have m1 := same_new (Same.refl H) ht (o := .dK [])
    generalize L2.upd H t (.dK []) = H1 at s1 t1 m1 ⊢
    refine ⟨Nat.zero_le _, fun h hh => ?_⟩
    have nah : a ≠ h := by obtain ⟨x, y, z, e⟩ := s1; exact ne_of_none e hh
    have nth : t ≠ h := ne_of_none t1 hh
    have h0 : H h = none := m1.free hh
    refine ⟨_, rfl, b, rfl, ⟨_, SqL.of ((same_new m1 hh) _ _ hb)⟩, for_list (K := K) (xs := ws.map V.str) (fun j σ H' => ∃ (es : List (PySem.Str × PySem.Str)) (hs : List PySem.Str) (v5 v6 : Option V), σ = [some (.ref a), some (.ref b), some (.ref c), some (.ref t), some (.ref h), v5, v6] ∧ But a H H' ∧ Stm H' a ∧
      H' t = some (.dK (sgV es)) ∧ H' h = some (.lst (hs.map V.str)) ∧ (es.map (·.1)).Nodup ∧ (∀ e ∈ es, Nm e.1 ∧ Nm e.2) ∧ es.length ≤ j ∧ hs.length ≤ j ∧ ∀ x ∈ hs, Nm x) ?_ ?_ ?_ ?_⟩
    · exact ⟨[], [], _, _, rfl, But.of (same_new m1 hh), s1.new hh, by rw [upd_ne nth]; exact t1, upd_same, List.nodup_nil, fun e h => absurd h List.not_mem_nil, Nat.le_refl _, Nat.le_refl _, fun e h => absurd h List.not_mem_nil⟩
    · rintro j σ' H' _ ⟨_, _, _, _, _, bt, _⟩
      exact SqL.of (bt _ _ hb nab.symm)
    · rintro j x σ' H2 hx ⟨es, hs, v5, v6, rfl, b2, s2, t2, h2, nd, ok, le, lh, okh⟩
      obtain ⟨z, hz, rfl⟩ : ∃ z, ws[j]? = some z ∧ x = V.str z := by
        rw [List.getElem?_map] at hx
        cases q : ws[j]? with
        | none => rw [q] at hx; cases hx
        | some u => rw [q] at hx; exact ⟨u, rfl, (Option.some.inj hx).symm⟩
      have zn := okw z (List.mem_of_getElem? hz)
      have jl : j < ws.length := (List.getElem?_eq_some_iff.mp hz).1
      refine ⟨_, rfl, _, rfl, c, _, rfl, .inl (SqL.of (b2 _ _ hc nac.symm)), _, _, rfl, rfl, a, _, rfl, s2, by omega, by rw [List.length_map]; omega, fun r H3 r0 r1 b3 s3 => ?_⟩
      rw [List.length_map] at r1
      have t3 := b3 _ _ t2 nat_.symm
      have h3 := b3 _ _ h2 nah.symm
      have b23 := b2.trans b3
      refine ⟨fun σ' H' => ∃ (es2 : List (PySem.Str × PySem.Str)), σ' = [some (.ref a), some (.ref b), some (.ref c), some (.ref t), some (.ref h), some (.str z), some (.int r)] ∧ But a H H' ∧ Stm H' a ∧
        H' t = some (.dK (sgV es2)) ∧ H' h = some (.lst (hs.map V.str)) ∧ (es2.map (·.1)).Nodup ∧ (∀ e ∈ es2, Nm e.1 ∧ Nm e.2) ∧ es2.length ≤ j + 1, ?_, ?_⟩
      · refine ⟨_, rfl, _, _, rfl, rfl, _, rfl, ite2 (fun lt => ?_) (fun _ => ⟨es, rfl, b23, s3, t3, h3, nd, ok, by omega⟩)⟩
        have lt := of_decide_eq_true lt
        obtain ⟨m, hm⟩ : ∃ m : Nat, r - 1 = (m : Int) := ⟨(r - 1).toNat, by omega⟩
        obtain ⟨y, hy⟩ : ∃ y, zs[m]? = some y := ⟨_, List.getElem?_eq_getElem (by omega)⟩
        refine ⟨_, rfl, _, rfl, _, _, rfl, rfl, c, _, _, .str y, rfl, rfl, SqL.of (b23 _ _ hc nac.symm), atI_ok (n := m) hm (by rw [List.getElem?_map, hy]; rfl), _, rfl, _, rfl, t, _, rfl, DPut.k (k := .inr z) t3 (small1000 (by rw [sg_len]; omega)), ?_⟩
        rw [← sg_set]
        refine ⟨setS es z y, rfl, b23.put ht, s3.put nat_.symm, upd_same, by rw [upd_ne nth.symm]; exact h3, set_keys _ _ _ nd, fun e he => (set_mem he).elim (ok e) fun q => by rw [q]; exact ⟨zn, okz y (List.mem_of_getElem? hy)⟩, Nat.le_trans (set_len _ _ _) (by omega)⟩
      · rintro σ' H4 ⟨es2, rfl, b4, s4, t4, h4, nd2, ok2, le2⟩
        refine ⟨_, rfl, a, 2, rfl, s4, by decide, by decide, fun r5 H5 _ _ b5 s5 => ⟨rfl, _, rfl, ite2 (fun _ => ?_) (fun _ => ?_)⟩⟩
        · have h5 := b5 _ _ h4 nah.symm
          refine ⟨_, rfl, .inl ⟨rfl, _, SqL.of h5⟩, _, rfl, h, _, _, rfl, rfl, h5, by rw [List.length_map]; exact small1000 (by omega), ?_⟩
          refine ⟨es2, hs ++ [z], _, _, rfl, (b4.trans b5).put h0, s5.put nah.symm, by rw [upd_ne nth]; exact b5 _ _ t4 nat_.symm, by rw [List.map_append]; exact upd_same, nd2, ok2, le2, by rw [List.length_append]; show hs.length + 1 ≤ j + 1; omega, fun x hx => ?_⟩
          rcases List.mem_append.mp hx with q | q
          · exact okh x q
          · rw [List.mem_singleton.mp q]; exact zn
        · exact ⟨es2, hs, _, _, rfl, b4.trans b5, s5, b5 _ _ t4 nat_.symm, b5 _ _ h4 nah.symm, nd2, ok2, le2, by omega, okh⟩
    · rintro σ' H2 ⟨es, hs, v5, v6, rfl, b2, s2, t2, h2, nd, ok, le, lh, okh⟩
      rw [List.length_map] at le lh
      refine ⟨_, rfl, _, rfl, (by show 2 ≤ sizeLine; decide), fun p hp => ?_⟩
      have p0 : H p = none := by
        cases q : H p with
        | none => rfl
        | some o =>
          by_cases e : p = a
          · obtain ⟨x, y, z, e2⟩ := s2
            rw [e, e2] at hp; cases hp
          · have := b2 p o q e
            rw [hp] at this; cases this
      exact k p t h es hs _ p0 ht h0 (b2.new hp) (s2.new hp) upd_same (by rw [upd_ne (ne_of_none t2 hp)]; exact t2) (by rw [upd_ne (ne_of_none h2 hp)]; exact h2) nd ok le lh okh
theorem cl_lview (T : Bt mg) (c_law_draw : Cl P w K mg base 1 "_law_draw" spDraw []) (a : At K mg "_law_view" s_law_view) : Cl P w K mg base 2 "_law_view" spLView [] := a.cal (ps := ["_law_stream_here", "_law_words", "_law_sights"]) (fun _ _ F => ok_lview T c_law_draw F) (fun _ _ _ _ _ _ us hl => match us, hl with | [_, _, _], _ => rfl)
end
end Lw

namespace Lw
open PySem PySem.Spec PyProof.Rows L2 Txs
open C8 (pe_gc)
/-! ### the wanted steps by their sights -/
abbrev OKey := Option PySem.Str
def wantedOf (ts : List Tr) (wn : List Int) : List Tr := wn.filterMap fun n => ts[n.toNat]?
theorem wantedOf_snoc {ts : List Tr} {wn : List Int} {n : Int} {t : Tr} (h : ts[n.toNat]? = some t) : wantedOf ts (wn ++ [n]) = wantedOf ts wn ++ [t] := by
  unfold wantedOf
  rw [List.filterMap_append]
  simp [h]
theorem wantedOf_len (ts : List Tr) (wn : List Int) : (wantedOf ts wn).length ≤ wn.length := List.length_filterMap_le _ _
theorem wantedOf_sub {ts : List Tr} {wn : List Int} {t : Tr} (h : t ∈ wantedOf ts wn) : t ∈ ts := by
  obtain ⟨n, _, e⟩ := List.mem_filterMap.mp h
  exact List.mem_of_getElem? e
theorem mem_wantedOf {ts : List Tr} {wn : List Int} {t : Tr} : t ∈ wantedOf ts wn ↔ ∃ n ∈ wn, ts[n.toNat]? = some t := List.mem_filterMap
/-- those of a sight -/
def grp (es : List (PySem.Str × PySem.Str)) (us : List Tr) (k : OKey) : List Tr := us.filter fun t => decide (look es t.2.1 = k)
theorem grp_snoc (es : List (PySem.Str × PySem.Str)) (us : List Tr) (t : Tr) (k : OKey) : grp es (us ++ [t]) k = if look es t.2.1 = k then grp es us k ++ [t] else grp es us k := by
  unfold grp
  rw [List.filter_append]
  by_cases e : look es t.2.1 = k
  · rw [if_pos e]
    simp [e]
  · rw [if_neg e]
    simp [e]
theorem grp_len (es : List (PySem.Str × PySem.Str)) (us : List Tr) (k : OKey) : (grp es us k).length ≤ us.length := (List.filter_sublist).length_le
theorem mem_grp {es : List (PySem.Str × PySem.Str)} {us : List Tr} {k : OKey} {t : Tr} : t ∈ grp es us k ↔ t ∈ us ∧ look es t.2.1 = k := by
  unfold grp
  rw [List.mem_filter, decide_eq_true_eq]
def gD (ls : List (OKey × Addr)) : List (OKey × V) := ls.map fun e => (e.1, .ref e.2)
structure Grp (H : Hp) (es : List (PySem.Str × PySem.Str)) (us : List Tr) (ls : List (OKey × Addr)) : Prop where
  nd : (ls.map (·.1)).Nodup
  na : (ls.map (·.2)).Nodup
  at_ : ∀ e ∈ ls, ∃ as, H e.2 = some (.lst (as.map V.ref)) ∧ Laid H as (grp es us e.1)
  all : ∀ k, k ∉ ls.map (·.1) → grp es us k = []
  non : ∃ l, (none, l) ∈ ls
theorem Grp.same {H H' : Hp} {es : List (PySem.Str × PySem.Str)} {us : List Tr} {ls : List (OKey × Addr)} (g : Grp H es us ls) (k : Same H H') : Grp H' es us ls :=
  ⟨g.nd, g.na, fun e he => let ⟨as, h, l⟩ := g.at_ e he; ⟨as, k _ _ h, l.same k⟩, g.all, g.non⟩
theorem gD_some {ls : List (OKey × Addr)} {x : OKey} {v : V} (h : valV (gD ls) x = some v) : ∃ y, v = .ref y ∧ (x, y) ∈ ls := by
  induction ls with
  | nil => cases h
  | cons e ls ih =>
    change valV ((e.1, V.ref e.2) :: gD ls) x = _ at h
    by_cases q : e.1 = x
    · rw [valV_pos (p := (e.1, V.ref e.2)) q] at h
      exact ⟨e.2, (Option.some.inj h).symm, by rw [← q]; exact List.mem_cons_self⟩
    · rw [valV_neg (p := (e.1, V.ref e.2)) q] at h
      obtain ⟨y, e1, e2⟩ := ih h
      exact ⟨y, e1, List.mem_cons_of_mem _ e2⟩
theorem gD_none {ls : List (OKey × Addr)} {x : OKey} (h : valV (gD ls) x = none) : x ∉ ls.map (·.1) := fun m => by
  induction ls with
  | nil => cases m
  | cons e ls ih =>
    change valV ((e.1, V.ref e.2) :: gD ls) x = _ at h
    by_cases q : e.1 = x
    · rw [valV_pos (p := (e.1, V.ref e.2)) q] at h; cases h
    · rw [valV_neg (p := (e.1, V.ref e.2)) q] at h
      rcases List.mem_cons.mp m with z | z
      · exact q z.symm
      · exact ih h z
theorem gD_there {ls : List (OKey × Addr)} {x : OKey} {y : Addr} (m : (x, y) ∈ ls) (nd : (ls.map (·.1)).Nodup) : valV (gD ls) x = some (.ref y) := by
  cases q : valV (gD ls) x with
  | none => exact absurd (List.mem_map.mpr ⟨_, m, rfl⟩) (gD_none q)
  | some v =>
    obtain ⟨z, rfl, mz⟩ := gD_some q
    rw [nd_fst nd m mz]
theorem gD_len (ls : List (OKey × Addr)) : (gD ls).length = ls.length := by unfold gD; rw [List.length_map]
theorem look_oV (es : List (PySem.Str × PySem.Str)) (x : PySem.Str) : (valV (sgV es) (.inr x : Key)).getD .non = OpD.oV (look es x) := by
  rw [look_val]
  cases look es x <;> rfl
/-- the ends that follow -/
def nextOf (xs : List Int) (us : List Tr) : List Int := (us.filter fun t => decide (t.1 ∈ xs)).map (·.2.2)
theorem mem_nextOf {xs : List Int} {us : List Tr} {y : Int} : y ∈ nextOf xs us ↔ ∃ t ∈ us, t.1 ∈ xs ∧ t.2.2 = y := by
  unfold nextOf
  rw [List.mem_map]
  constructor
  · rintro ⟨t, ht, rfl⟩
    obtain ⟨m, e⟩ := List.mem_filter.mp ht
    exact ⟨t, m, of_decide_eq_true e, rfl⟩
  · rintro ⟨t, m, e, rfl⟩
    exact ⟨t, List.mem_filter.mpr ⟨m, decide_eq_true e⟩, rfl⟩
theorem nextOf_len (xs : List Int) (us : List Tr) : (nextOf xs us).length ≤ us.length := by
  unfold nextOf
  rw [List.length_map]
  exact (List.filter_sublist).length_le
theorem nextOf_snoc (xs : List Int) (us : List Tr) (t : Tr) : nextOf xs (us ++ [t]) = if t.1 ∈ xs then nextOf xs us ++ [t.2.2] else nextOf xs us := by
  unfold nextOf
  rw [List.filter_append, List.map_append]
  by_cases e : t.1 ∈ xs
  · rw [if_pos e]
    simp [e]
  · rw [if_neg e]
    simp [e]
def spBySight (P : Program) (w : World) (C CV : Addr) : Sp := fun vs H Q _ => ∃ (A : PlAt) (d : Pl) (B : VwAt) (e : Vw), vs = [.ref A.p, .ref B.p] ∧ IsPl C H A d ∧ IsVw CV H B e ∧ (∀ x ∈ d.wanted, 0 ≤ x ∧ x < (d.steps.length : Int)) ∧
  ∀ p ls H', Same H H' → H p = none → H' p = some (OpD.DO P w p (gD ls)) → Grp H' e.sights (wantedOf d.steps d.wanted) ls → ls.length ≤ 61 → Q (.ref p) H'
/-- a table of steps by their sights, at t -/
structure TabAt (P : Program) (w : World) (H : Hp) (t : Addr) (es : List (PySem.Str × PySem.Str)) (us : List Tr) (ls : List (OKey × Addr)) : Prop where
  at_ : H t = some (OpD.DO P w t (gD ls))
  grp : Grp H es us ls
  few : us.length ≤ 60
theorem TabAt.same {P : Program} {w : World} {H H' : Hp} {t : Addr} {es : List (PySem.Str × PySem.Str)} {us : List Tr} {ls : List (OKey × Addr)} (h : TabAt P w H t es us ls) (k : Same H H') : TabAt P w H' t es us ls := ⟨k _ _ h.at_, h.grp.same k, h.few⟩
/-- the states behind the unseen steps -/
def FirstOf (es : List (PySem.Str × PySem.Str)) (us : List Tr) (s : Int) (ys : List Int) : Prop := States (Lw.grp es us none) [s] ys
def AfterOf (es : List (PySem.Str × PySem.Str)) (us : List Tr) (xs : List Int) (k : PySem.Str) (ys : List Int) : Prop := States (Lw.grp es us none) (nextOf xs (Lw.grp es us (some k))) ys
def spFirst (P : Program) (w : World) (C : Addr) : Sp := fun vs H Q _ => ∃ (A : PlAt) (d : Pl) (t : Addr) (es : List (PySem.Str × PySem.Str)) (us : List Tr) (ls : List (OKey × Addr)), vs = [.ref A.p, .ref t] ∧ IsPl C H A d ∧ TabAt P w H t es us ls ∧
  ∀ ys p H', FirstOf es us d.start ys → Same H H' → H p = none → H' p = some (.tup (ys.map V.int)) → Q (.ref p) H'
def spAfter (P : Program) (w : World) : Sp := fun vs H Q _ => ∃ (t b : Addr) (k : PySem.Str) (es : List (PySem.Str × PySem.Str)) (us : List Tr) (ls : List (OKey × Addr)) (xs : List Int), vs = [.ref t, .ref b, .str k] ∧ TabAt P w H t es us ls ∧ H b = some (.tup (xs.map V.int)) ∧ xs.length ≤ 100 ∧
  ∀ ys p H', AfterOf es us xs k ys → Same H H' → H p = none → H' p = some (.tup (ys.map V.int)) → Q (.ref p) H'
section
variable {P : Program} {w : World} {K : PySem.W.Frag} {mg : PySem.Str → Option Value} {base : Heap} {C CV : Addr}
theorem ok_wanted_by_sight (T : Bt mg) (p_Plant_steps : Pr P w K mg base 1 C "steps" (spPlSteps C)) (p_Plant_wanted : Pr P w K mg base 1 C "wanted" (spPl_wanted C)) (p_View_sights : Pr P w K mg base 1 CV "sights" (spVwSights CV)) {f : Addr} {fd : FuncData}
    (F : FunD K "wanted_by_sight" "wanted_by_sight" (defArgs s_wanted_by_sight) (defBody s_wanted_by_sight) (defScope s_wanted_by_sight) [] [] f fd) : FnOk P w K mg base CX0 3 f fd ["plant", "view"] (spBySight P w C CV) := by
  refine F.ok sc_wanted_by_sight (fun vs H Q E h => ?_) (fun cdv A0 outer s H vs Q E hr h => ?_)
  · obtain ⟨A, d, B, e, rfl, _⟩ := h
    rfl
  · obtain ⟨A, d, B, e, rfl, ip, iv, wok, k⟩ := h
    have hu := hu_of hr
    refine ⟨_, PSs.nox (pss_cons (ps_set (i := 2) sc_wanted_by_sight.nd rfl (Or.inl rfl) (pe_pr p_Plant_steps hr (by decide) (pv 0) rfl)) (pss_cons (ps_set (i := 3) sc_wanted_by_sight.nd rfl (Or.inl rfl) (pe_pr p_View_sights hr (by decide) (pv 1) rfl)) (pss_cons (ps_set (i := 4) sc_wanted_by_sight.nd rfl (Or.inl rfl) (OpD.pe_dispO (pps_cons pe_non (pe_lst pa_nil) pps_nil) rfl rfl (fun z => nomatch z) (by decide))) (pss_cons (ps_for PassesOwn.never rfl (pi_list (pe_pr p_Plant_wanted hr (by decide) (pv 0) rfl)) (pg_name (i := 5) sc_wanted_by_sight.nd rfl (Or.inl rfl)) (pss_cons (ps_set (i := 6) sc_wanted_by_sight.nd rfl (Or.inl rfl) (pe_ix ix_list (pv 2) (pv 5) (fun _ _ => rfl))) (pss_one (ps_expr (pe_bm PySem.F.plainAttrs_list PySem.F.slot_list_append PySem.F.type_list_append mt_append (OpD.pe_osetd (pv 4) (pe_dget1 hu (pv 3) (pe_ix ix_tup (pv 6) pe_int (fun _ _ => rfl)) ⟨by rfl, by rfl, by rfl, by rfl⟩) (pe_lst pa_nil) ⟨by rfl, by rfl, by rfl, by rfl⟩) (pa_cons (pv 6) pa_nil)))))) (pss_one (ps_ret (pv 4))))))), ?_⟩
    -- the steps
    refine ⟨_, rfl, A.p, A.dx, _, rfl, ip.ins, A, d, rfl, ip, fun ss q1 ls1 h1 => ?_⟩
    have m1 := same_new (Same.refl H) h1 (o := .lst (ss.map V.ref))
    have e1 : (L2.upd H q1 (.lst (ss.map V.ref))) q1 = some (.lst (ss.map V.ref)) := upd_same
    have l1 := ls1.new h1 (o := .lst (ss.map V.ref))
    generalize L2.upd H q1 (.lst (ss.map V.ref)) = H1 at m1 e1 l1 ⊢
    -- the sights
    have iv1 := iv.same m1
    refine ⟨_, rfl, B.p, B.dx, _, rfl, iv1.ins, B, e, rfl, iv1, fun q2 h2 => ?_⟩
    have m2 := same_new (Same.refl H1) h2 (o := .dK (sgV e.sights))
    have e2 : (L2.upd H1 q2 (.dK (sgV e.sights))) q2 = some (.dK (sgV e.sights)) := upd_same
    generalize L2.upd H1 q2 (.dK (sgV e.sights)) = H2 at m2 e2 ⊢
    -- the table
    intro p hp
    refine ⟨Nat.zero_le _, fun z hz => ?_⟩
    have npz : p ≠ z := fun q => by rw [q, upd_same] at hz; cases hz
    have hz2 : H2 z = none := by rw [upd_ne npz.symm] at hz; exact hz
    refine ⟨by rw [upd_ne npz]; exact upd_same, [(none, .ref z)], rfl, Nat.le_add_left 1 14, ?_⟩
    generalize hso : OpD.DO (cxOf CX0 P w K mg base ["plant", "view", "steps", "sights", "table", "number", "step"] "wanted_by_sight" (defScope s_wanted_by_sight) f cdv A0 outer s H E).nox.prog (cxOf CX0 P w K mg base ["plant", "view", "steps", "sights", "table", "number", "step"] "wanted_by_sight" (defScope s_wanted_by_sight) f cdv A0 outer s H E).nox.w p (OpD.mergeO [] [(none, V.ref z)]) = so
    have hso : OpD.DO P w p (gD [(none, z)]) = so := hso
    have e3 : (L2.upd (L2.upd (L2.upd H2 p (.dK [])) z (.lst [])) p so) p = some (OpD.DO P w p (gD [(none, z)])) := by rw [hso]; exact upd_same
    have z3 : (L2.upd (L2.upd (L2.upd H2 p (.dK [])) z (.lst [])) p so) z = some (.lst []) := by rw [upd_ne npz.symm]; exact upd_same
    have m3 : Same H2 (L2.upd (L2.upd (L2.upd H2 p (.dK [])) z (.lst [])) p so) := same_put (same_put (same_put (Same.refl _) hp) hz2) hp
    generalize (L2.upd (L2.upd (L2.upd H2 p (.dK [])) z (.lst [])) p so) = H3 at e3 z3 m3 ⊢
    have m03 : Same H H3 := (m1.trans m2).trans m3
    have p0 : H p = none := (m1.trans m2).free hp
    have z0 : H z = none := (m1.trans m2).free hz2
    have ip3 := ip.same m03
    obtain ⟨_, _, w60, _, _⟩ := ip.small
    -- the wanted steps
    refine ⟨_, rfl, A.p, A.dx, _, rfl, ip3.ins, A, d, rfl, ip3, fun q3 h3 => ?_⟩
    have m4 := same_new m03 h3 (o := .lst (d.wanted.map V.int))
    have e4 : (L2.upd H3 q3 (.lst (d.wanted.map V.int))) q3 = some (.lst (d.wanted.map V.int)) := upd_same
    have p4 : (L2.upd H3 q3 (.lst (d.wanted.map V.int))) p = some (OpD.DO P w p (gD [(none, z)])) := by rw [upd_ne (ne_of_none e3 h3)]; exact e3
    have z4 : (L2.upd H3 q3 (.lst (d.wanted.map V.int))) z = some (.lst []) := by rw [upd_ne (ne_of_none z3 h3)]; exact z3
    have s4 : (L2.upd H3 q3 (.lst (d.wanted.map V.int))) q1 = some (.lst (ss.map V.ref)) := by
      rw [upd_ne (ne_of_none (m3 _ _ (m2 _ _ e1)) h3)]; exact m3 _ _ (m2 _ _ e1)
    have t4 : (L2.upd H3 q3 (.lst (d.wanted.map V.int))) q2 = some (.dK (sgV e.sights)) := by
      rw [upd_ne (ne_of_none (m3 _ _ e2) h3)]; exact m3 _ _ e2
    have q30 : H q3 = none := m03.free h3
    have nz3 : z ≠ q3 := ne_of_none z3 h3
    have nz1 : z ≠ q1 := (ne_of_none (m2 _ _ e1) hz2).symm
    have q10 : H q1 = none := h1
    have np3 : p ≠ q3 := ne_of_none e3 h3
    have np1 : p ≠ q1 := (ne_of_none (m2 _ _ e1) hp).symm
    have np2 : p ≠ q2 := (ne_of_none e2 hp).symm
    have l4 := l1.same (((m2.trans m3).trans (same_new (Same.refl _) h3 (o := .lst (d.wanted.map V.int)))))
    generalize L2.upd H3 q3 (.lst (d.wanted.map V.int)) = H4 at m4 e4 p4 z4 s4 t4 ⊢
    refine ⟨q3, rfl, ⟨_, SqL.of e4⟩, for_list (K := K) (xs := d.wanted.map V.int) (fun i σ H' => ∃ (ls : List (OKey × Addr)) (v5 v6 : Option V), σ = [some (.ref A.p), some (.ref B.p), some (.ref q1), some (.ref q2), some (.ref p), v5, v6] ∧ Same H H' ∧ H' q3 = some (.lst (d.wanted.map V.int)) ∧ H' q1 = some (.lst (ss.map V.ref)) ∧ H' q2 = some (.dK (sgV e.sights)) ∧ H' p = some (OpD.DO P w p (gD ls)) ∧
      Grp H' e.sights (wantedOf d.steps (d.wanted.take i)) ls ∧ (∀ x ∈ ls, H x.2 = none ∧ x.2 ≠ q3 ∧ x.2 ≠ q1) ∧ ls.length ≤ i + 1) ?_ ?_ ?_ ?_⟩
    · refine ⟨[(none, z)], _, _, rfl, m4, e4, s4, t4, p4, ⟨by simp, by simp, fun x hx => ?_, fun k _ => by simp [wantedOf, grp], ⟨z, List.mem_singleton.mpr rfl⟩⟩, fun x hx => ?_, Nat.le_refl _⟩
      · rw [List.mem_singleton.mp hx]
        exact ⟨[], z4, .nil⟩
      · rw [List.mem_singleton.mp hx]
        exact ⟨z0, nz3, nz1⟩
    · rintro i σ' H' _ ⟨_, _, _, _, _, e5, _⟩
      exact SqL.of e5
    · rintro i x σ' H5 hx ⟨ls, v5, v6, rfl, m5, e5, s5, t5, p5, g5, f5, le⟩
      obtain ⟨n, hn, rfl⟩ := int_at' hx
      have il : i < d.wanted.length := (List.getElem?_eq_some_iff.mp hn).1
      obtain ⟨n0, n1⟩ := wok n (List.mem_of_getElem? hn)
      obtain ⟨t, ht⟩ : ∃ t, d.steps[n.toNat]? = some t := ⟨_, List.getElem?_eq_getElem (by omega)⟩
      obtain ⟨qa, ha, hqa⟩ := ls1.at_ ht
      have at1 : atI (ss.map V.ref) n = some (.ref qa) := by
        have := atI_nat (j := n.toNat) (xs := ss.map V.ref) (by rw [List.getElem?_map, ha]; rfl)
        rw [show ((n.toNat : Nat) : Int) = n by omega] at this
        exact this
      have qq := m5 _ _ hqa
      refine ⟨_, rfl, _, rfl, q1, _, _, .ref qa, rfl, rfl, SqL.of s5, at1, ?_⟩
      refine ⟨_, rfl, p, _, rfl, .inl p5, _, rfl, q2, rfl, .inl ⟨_, .inl t5⟩, _, rfl, qa, _, _, .str t.2.1, rfl, rfl, SqT.of qq, rfl, _, DGet.k (k := .inr t.2.1) t5, Nat.zero_le _, fun y hy => ?_⟩
      have npy : p ≠ y := ne_of_none p5 hy
      have p6 : (L2.upd H5 y (.lst [])) p = some (OpD.DO P w p (gD ls)) := by rw [upd_ne npy]; exact p5
      have m6 : Same H (L2.upd H5 y (.lst [])) := same_new m5 hy
      have e6 : (L2.upd H5 y (.lst [])) q3 = some (.lst (d.wanted.map V.int)) := by rw [upd_ne (ne_of_none e5 hy)]; exact e5
      have s6 : (L2.upd H5 y (.lst [])) q1 = some (.lst (ss.map V.ref)) := by rw [upd_ne (ne_of_none s5 hy)]; exact s5
      have t6 : (L2.upd H5 y (.lst [])) q2 = some (.dK (sgV e.sights)) := by rw [upd_ne (ne_of_none t5 hy)]; exact t5
      have g6 : Grp (L2.upd H5 y (.lst [])) e.sights (wantedOf d.steps (d.wanted.take i)) ls := g5.same (same_new (Same.refl _) hy)
      have y6 : (L2.upd H5 y (.lst [])) y = some (.lst []) := upd_same
      have qq6 : (L2.upd H5 y (.lst [])) qa = some (.tup (trV t)) := by rw [upd_ne (ne_of_none qq hy)]; exact qq
      have y0 : H y = none := m5.free hy
      have ny : ∀ x ∈ ls, x.2 ≠ y := fun x hx => let ⟨_, h, _⟩ := g5.at_ x hx; ne_of_none h hy
      have ny3 : y ≠ q3 := (ne_of_none e5 hy).symm
      have ny1 : y ≠ q1 := (ne_of_none s5 hy).symm
      generalize L2.upd H5 y (.lst []) = H6 at p6 m6 e6 s6 t6 g6 y6 qq6 ⊢
      have few : (gD ls).length ≤ 1000 := by rw [gD_len]; omega
      have wl : (wantedOf d.steps (d.wanted.take i)).length ≤ 60 := by
        have := wantedOf_len d.steps (d.wanted.take i)
        rw [List.length_take] at this
        omega
      have wn1 : wantedOf d.steps (d.wanted.take (i + 1)) = wantedOf d.steps (d.wanted.take i) ++ [t] := by rw [take_at hn, wantedOf_snoc ht]
      refine ⟨gD ls, look e.sights t.2.1, p6, look_oV _ _, small1000 few, fun v hv => ?_, fun hnn => ?_⟩
      · obtain ⟨l, rfl, m⟩ := gD_some hv
        obtain ⟨as, hl, la⟩ := g6.at_ _ m
        have asl : as.length ≤ 1000 := by
          have h1 : as.length = (grp e.sights (wantedOf d.steps (d.wanted.take i)) (look e.sights t.2.1)).length := la.len
          have h2 := grp_len e.sights (wantedOf d.steps (d.wanted.take i)) (look e.sights t.2.1)
          omega
        refine ⟨.inl ⟨rfl, _, SqL.of hl⟩, _, rfl, l, _, _, rfl, rfl, hl, by rw [List.length_map]; exact small1000 asl, ?_⟩
        obtain ⟨l0, l3, l1'⟩ := f5 _ m
        have npl : p ≠ l := (ne_of hl p6 fun z => nomatch z).symm
        have nl2 : l ≠ q2 := ne_of hl t6 fun z => nomatch z
        refine ⟨ls, _, _, rfl, same_put m6 l0, by rw [upd_ne l3.symm]; exact e6, by rw [upd_ne l1'.symm]; exact s6, by rw [upd_ne nl2.symm]; exact t6, by rw [upd_ne npl]; exact p6, ⟨g6.nd, g6.na, fun x hx => ?_, fun k hk => ?_, g6.non⟩, f5, by omega⟩
        · obtain ⟨bs, hb, lb⟩ := g6.at_ x hx
          rw [wn1, grp_snoc]
          by_cases q : look e.sights t.2.1 = x.1
          · rw [if_pos q]
            have e2 : x.2 = l := nd_fst g6.nd (x := x.1) (y := x.2) (z := l) hx (by rw [← q]; exact m)
            refine ⟨as ++ [qa], by rw [e2, upd_same, List.map_append]; rfl, ?_⟩
            rw [← q]
            exact (la.put hl).snoc (by rw [upd_ne (ne_of qq6 hl fun z => nomatch z)]; exact qq6)
          · rw [if_neg q]
            have n2 : x.2 ≠ l := fun z => q (nd_snd g6.na (x := look e.sights t.2.1) (z := x.1) (y := l) m (by rw [← z]; exact hx))
            exact ⟨bs, by rw [upd_ne n2]; exact hb, lb.put hl⟩
        · rw [wn1, grp_snoc, if_neg fun z => hk (List.mem_map.mpr ⟨_, m, z⟩)]
          exact g6.all k hk
      · have nt := gD_none hnn
        have e8 : putK (gD ls) (look e.sights t.2.1) (.ref y) = gD (ls ++ [(look e.sights t.2.1, y)]) := by
          rw [putK_new _ hnn]
          unfold gD
          rw [List.map_append]
          rfl
        rw [e8]
        generalize hso2 : OpD.DO (cxOf CX0 P w K mg base ["plant", "view", "steps", "sights", "table", "number", "step"] "wanted_by_sight" (defScope s_wanted_by_sight) f cdv A0 outer s H E).nox.prog (cxOf CX0 P w K mg base ["plant", "view", "steps", "sights", "table", "number", "step"] "wanted_by_sight" (defScope s_wanted_by_sight) f cdv A0 outer s H E).nox.w p (gD (ls ++ [(look e.sights t.2.1, y)])) = so2
        have hso2 : OpD.DO P w p (gD (ls ++ [(look e.sights t.2.1, y)])) = so2 := hso2
        have y7 : (L2.upd H6 p so2) y = some (.lst []) := by rw [upd_ne npy.symm]; exact y6
        have qq7 : (L2.upd H6 p so2) qa = some (.tup (trV t)) := by rw [upd_ne (ne_of qq6 p6 fun z => nomatch z)]; exact qq6
        refine ⟨.inl ⟨rfl, _, SqL.of y7⟩, _, rfl, y, _, _, rfl, rfl, y7, by decide, ?_⟩
        have ny2 : y ≠ q2 := ne_of y6 t6 fun z => nomatch z
        refine ⟨ls ++ [(look e.sights t.2.1, y)], _, _, rfl, same_put (same_put m6 p0) y0, by rw [upd_ne ny3.symm, upd_ne np3.symm]; exact e6, by rw [upd_ne ny1.symm, upd_ne np1.symm]; exact s6, by rw [upd_ne ny2.symm, upd_ne np2.symm]; exact t6, by rw [upd_ne npy, upd_same, hso2], ⟨?_, ?_, fun x hx => ?_, fun k hk => ?_, ?_⟩, fun x hx => ?_, by rw [List.length_append]; show ls.length + 1 ≤ i + 1 + 1; omega⟩
        · rw [List.map_append]
          exact nd_snoc g6.nd nt
        · rw [List.map_append]
          exact nd_snoc g6.na fun m => by
            obtain ⟨x, hx, q⟩ := List.mem_map.mp m
            exact ny x hx q
        · rw [wn1, grp_snoc]
          rcases List.mem_append.mp hx with m | m
          · have q : ¬ look e.sights t.2.1 = x.1 := fun q => nt (List.mem_map.mpr ⟨_, m, q.symm⟩)
            obtain ⟨bs, hb, lb⟩ := g6.at_ x m
            rw [if_neg q]
            refine ⟨bs, by rw [upd_ne (ny x m), upd_ne (ne_of hb p6 fun z => nomatch z)]; exact hb, lb.keep fun b u hb2 => ?_⟩
            rw [upd_ne (ne_of hb2 y6 fun z => nomatch z), upd_ne (ne_of hb2 p6 fun z => nomatch z)]
            exact hb2
          · rw [List.mem_singleton.mp m, if_pos rfl, g6.all _ nt]
            refine ⟨[qa], upd_same, .cons ?_ .nil⟩
            rw [upd_ne (ne_of qq6 y6 fun z => nomatch z)]
            exact qq7
        · rw [List.map_append] at hk
          have hk := not_or.mp (fun z => hk (List.mem_append.mpr z))
          rw [wn1, grp_snoc, if_neg fun z => hk.2 (by rw [← z]; simp)]
          exact g6.all k hk.1
        · obtain ⟨l, hl⟩ := g6.non
          exact ⟨l, List.mem_append.mpr (.inl hl)⟩
        · rcases List.mem_append.mp hx with m | m
          · exact f5 x m
          · rw [List.mem_singleton.mp m]
            exact ⟨y0, ny3, ny1⟩
    · rintro σ' H5 ⟨ls, v5, v6, rfl, m5, e5, s5, t5, p5, g5, f5, le⟩
      rw [List.length_map] at le
      rw [List.length_map, List.take_length] at g5
      exact ⟨_, rfl, k p ls H5 m5 p0 p5 g5 (by omega)⟩
theorem cl_wanted_by_sight (T : Bt mg) (p_Plant_steps : Pr P w K mg base 1 C "steps" (spPlSteps C)) (p_Plant_wanted : Pr P w K mg base 1 C "wanted" (spPl_wanted C)) (p_View_sights : Pr P w K mg base 1 CV "sights" (spVwSights CV)) (a : At K mg "wanted_by_sight" s_wanted_by_sight) :
    Cl P w K mg base 3 "wanted_by_sight" (spBySight P w C CV) [] := a.cal (ps := ["plant", "view"]) (fun _ _ F => ok_wanted_by_sight T p_Plant_steps p_Plant_wanted p_View_sights F) (fun _ _ _ _ _ _ us hl => match us, hl with | [_, _], _ => rfl)
theorem ok_first_ends (T : Bt mg) (p_Plant_start : Pr P w K mg base 1 C "start" (spPlStart C)) (c_states_from : Cl P w K mg base 2 "states_from" (spStatesFrom K) []) {f : Addr} {fd : FuncData}
    (F : FunD K "first_ends" "first_ends" (defArgs s_first_ends) (defBody s_first_ends) (defScope s_first_ends) [] [] f fd) : FnOk P w K mg base CX0 3 f fd ["plant", "table"] (spFirst P w C) := by
  refine F.ok sc_first_ends (fun vs H Q E h => ?_) (fun cdv A0 outer s H vs Q E hr h => ?_)
  · obtain ⟨A, d, t, es, us, ls, rfl, _⟩ := h
    rfl
  · obtain ⟨A, d, t, es, us, ls, rfl, ip, tb, k⟩ := h
    have hu := hu_of hr
    refine ⟨_, PSs.nox (pss_one (ps_ret (pe_callTy call_tuple_of (by rfl) T.b_tuple (by decide +kernel) (pa_cons (pe_cl c_states_from hr (by decide) rfl (pa_cons (pe_lst (pa_cons (pe_pr p_Plant_start hr (by decide) (pv 0) rfl) pa_nil)) (pa_cons (OpD.pe_oget (pv 1) pe_non (fun _ _ => rfl)) pa_nil))) pa_nil)))), ?_⟩
    refine ⟨_, rfl, A.p, A.dx, _, rfl, ip.ins, A, d, rfl, ip, (show 1 ≤ sizeLine by decide), fun b hb => ?_⟩
    have m1 := same_new (Same.refl H) hb (o := .lst [.int d.start])
    have b1 : (L2.upd H b (.lst [.int d.start])) b = some (.lst ([d.start].map V.int)) := upd_same
    have tb1 := tb.same m1
    generalize L2.upd H b (.lst [.int d.start]) = H1 at m1 b1 tb1 ⊢
    obtain ⟨l, hl⟩ := tb1.grp.non
    obtain ⟨as, ha, la⟩ := tb1.grp.at_ _ hl
    have gl : (grp es us none).length ≤ us.length := grp_len es us none
    have few := tb.few
    refine ⟨_, rfl, t, _, none, _, rfl, .inl tb1.at_, rfl, gD_there hl tb1.grp.nd, b, l, as, grp es us none, [d.start], d.start :: (grp es us none).map (·.2.2), rfl, b1, (by show 1 ≤ 100; omega), .inl (SqL.of ha), la, by omega, by rw [List.length_cons, List.length_map]; omega, fun x hx => by rw [List.mem_singleton.mp hx]; exact List.mem_cons_self, fun x hx => List.mem_cons_of_mem _ (List.mem_map.mpr ⟨x, hx, rfl⟩), fun ys p H2 st m2 p0 hp => ?_⟩
    refine ⟨p, _, rfl, .inl ⟨SqL.of hp, fun q hq => ?_⟩⟩
    exact k ys q _ st (same_new (m1.trans m2) hq) ((m1.trans m2).free hq) upd_same
theorem cl_first_ends (T : Bt mg) (p_Plant_start : Pr P w K mg base 1 C "start" (spPlStart C)) (c_states_from : Cl P w K mg base 2 "states_from" (spStatesFrom K) []) (a : At K mg "first_ends" s_first_ends) :
    Cl P w K mg base 3 "first_ends" (spFirst P w C) [] := a.cal (ps := ["plant", "table"]) (fun _ _ F => ok_first_ends T p_Plant_start c_states_from F) (fun _ _ _ _ _ _ us hl => match us, hl with | [_, _], _ => rfl)
theorem ok_ends_after (T : Bt mg) (c_states_from : Cl P w K mg base 2 "states_from" (spStatesFrom K) []) {f : Addr} {fd : FuncData}
    (F : FunD K "ends_after" "ends_after" (defArgs s_ends_after) (defBody s_ends_after) (defScope s_ends_after) [] [] f fd) : FnOk P w K mg base CX0 3 f fd ["table", "ends", "sight"] (spAfter P w) := by
  refine F.ok sc_ends_after (fun vs H Q E h => ?_) (fun cdv A0 outer s H vs Q E hr h => ?_)
  · obtain ⟨t, b, k, es, us, ls, xs, rfl, _⟩ := h
    rfl
  · obtain ⟨t, b, kk, es, us, ls, xs, rfl, tb, hb, x100, k⟩ := h
    have hu := hu_of hr
    have few := tb.few
    refine ⟨_, PSs.nox (pss_cons (ps_setLc (i := 3) (own := [("step", 4)]) rfl sc_ends_after.nd rfl rfl (sw_true rfl rfl rfl (by decide +kernel)) (pi_list (OpD.pe_oget2 (pv 0) (pv 2) (pe_lst pa_nil) ⟨by rfl, by rfl, by rfl, by rfl⟩)) (blkOk_by (N := N_ends_after) (sc := defScope s_ends_after) (by decide +kernel)) (fun _ _ _ _ _ => (pg_name (i := 4) sc_ends_after.nd rfl (Or.inl rfl))) (fun _ _ _ _ _ => (pts_one (pt_cmpR (opIn K) (pe_ix (ixT K) (pv 4) pe_int (fun _ _ => rfl)) (pv 1) (by rfl)))) (fun _ _ _ _ _ => (pe_ix (ixT K) (pv 4) pe_int (fun _ _ => rfl)))) (pss_one (ps_ret (pe_callTy call_tuple_of (by rfl) T.b_tuple (by decide +kernel) (pa_cons (pe_cl c_states_from hr (by decide) rfl (pa_cons (pv 3) (pa_cons (OpD.pe_oget (pv 0) pe_non (fun _ _ => rfl)) pa_nil))) pa_nil))))), ?_⟩
    refine ⟨_, rfl, t, _, rfl, .inl tb.at_, _, rfl, Nat.zero_le _, fun z hz => ?_⟩
    have m1 := same_new (Same.refl H) hz (o := .lst [])
    have z1 : (L2.upd H z (.lst [])) z = some (.lst []) := upd_same
    have tb1 := tb.same m1
    generalize L2.upd H z (.lst []) = H1 at m1 z1 tb1 ⊢
    refine ⟨_, some kk, .inl tb1.at_, rfl, ?_⟩
    obtain ⟨l, as, el, hl, la⟩ : ∃ (l : Addr) (as : List Addr), (valV (gD ls) (some kk)).getD (.ref z) = .ref l ∧ H1 l = some (.lst (as.map V.ref)) ∧ Laid H1 as (grp es us (some kk)) := by
      cases q : valV (gD ls) (some kk) with
      | none => exact ⟨z, [], rfl, z1, by rw [tb1.grp.all _ (gD_none q)]; exact .nil⟩
      | some v =>
        obtain ⟨y, rfl, m⟩ := gD_some q
        obtain ⟨as, ha, la⟩ := tb1.grp.at_ _ m
        exact ⟨y, as, rfl, ha, la⟩
    rw [el]
    have tb60 : (grp es us (some kk)).length ≤ 60 := Nat.le_trans (grp_len es us (some kk)) few
    refine ⟨l, rfl, ⟨_, SqL.of hl⟩, fun D hD => lc_list (K := K) (xs := as.map V.ref) (fun i H' => Same H1 H' ∧ H' D = some (.lst ((nextOf xs ((grp es us (some kk)).take i)).map V.int))) ?_ ?_ ?_ ?_⟩
    · exact ⟨same_new (Same.refl _) hD, upd_same⟩
    · exact fun i H' _ ⟨sm, _⟩ => sm.seq (SqL.of hl)
    · rintro i x H2 hx ⟨m2, d2⟩
      obtain ⟨q, hq, rfl⟩ := ref_at hx
      obtain ⟨u, hu2, hqu⟩ := la.at' hq
      have q2 := m2 _ _ hqu
      have b2 := m2 _ _ (m1 _ _ hb)
      have il : i < (grp es us (some kk)).length := (List.getElem?_eq_some_iff.mp hu2).1
      refine ⟨rfl, _, rfl, q, _, _, .int u.1, rfl, rfl, SqT.of q2, rfl, _, rfl, b, _, rfl, .inr (SqT.of b2), rfl, all_flat_ints xs, _, rfl, ?_⟩
      rw [inV_ints]
      by_cases c : u.1 ∈ xs
      · rw [decide_eq_true c]
        have few2 : (nextOf xs ((grp es us (some kk)).take i)).length ≤ 1000 := by
          have := nextOf_len xs ((grp es us (some kk)).take i)
          rw [List.length_take] at this
          omega
        refine iteT ⟨_, rfl, q, _, _, .int u.2.2, rfl, rfl, SqT.of q2, rfl, _, d2, by rw [List.length_map]; exact small1000 few2, same_put m2 hD, ?_⟩
        rw [upd_same, take_at hu2, nextOf_snoc, if_pos c, List.map_append]
        rfl
      · rw [decide_eq_false c]
        refine iteF ⟨m2, ?_⟩
        rw [take_at hu2, nextOf_snoc, if_neg c]
        exact d2
    rintro H2 ⟨m2, d2⟩
    rw [List.length_map, la.len, List.take_length] at d2
    have tb2 := tb1.same m2
    obtain ⟨l0, hl0⟩ := tb2.grp.non
    obtain ⟨as0, ha0, la0⟩ := tb2.grp.at_ _ hl0
    have gl0 : (grp es us none).length ≤ us.length := grp_len es us none
    have m02 := m1.trans m2
    refine ⟨_, rfl, _, rfl, t, _, none, _, rfl, .inl tb2.at_, rfl, gD_there hl0 tb2.grp.nd, D, l0, as0, grp es us none, nextOf xs (grp es us (some kk)), us.map (·.2.2), rfl, d2, Nat.le_trans (nextOf_len _ _) (by omega), .inl (SqL.of ha0), la0, by omega, by rw [List.length_map]; omega, fun x hx => ?_, fun x hx => List.mem_map.mpr ⟨x, (mem_grp.1 hx).1, rfl⟩, fun ys p H3 st m3 p0 hp => ?_⟩
    · obtain ⟨u, hu2, _, e2⟩ := mem_nextOf.1 hx
      exact List.mem_map.mpr ⟨u, (mem_grp.1 hu2).1, e2⟩
    refine ⟨p, _, rfl, .inl ⟨SqL.of hp, fun q hq => ?_⟩⟩
    exact k ys q _ st (same_new (m02.trans m3) hq) ((m02.trans m3).free hq) upd_same
theorem cl_ends_after (T : Bt mg) (c_states_from : Cl P w K mg base 2 "states_from" (spStatesFrom K) []) (a : At K mg "ends_after" s_ends_after) :
    Cl P w K mg base 3 "ends_after" (spAfter P w) [] := a.cal (ps := ["table", "ends", "sight"]) (fun _ _ F => ok_ends_after T c_states_from F) (fun _ _ _ _ _ _ us hl => match us, hl with | [_, _, _], _ => rfl)
end
end Lw

namespace Lw
open PySem PySem.Spec PyProof.Rows L2 Txs Ers
open C8 (pe_gc)
/-! ### the ends of the wanted runs with given sights -/
/-- a wanted run with these sights ends at a state -/
inductive RunTo (es : List (PySem.Str × PySem.Str)) (us : List Tr) (s0 : Int) : List PySem.Str → Int → Prop
  | start : RunTo es us s0 [] s0
  | unseen {xs : List PySem.Str} {t : Tr} (h : RunTo es us s0 xs t.1) (m : t ∈ us) (e : look es t.2.1 = none) : RunTo es us s0 xs t.2.2
  | seen {xs : List PySem.Str} {t : Tr} {k : PySem.Str} (h : RunTo es us s0 xs t.1) (m : t ∈ us) (e : look es t.2.1 = some k) : RunTo es us s0 (xs ++ [k]) t.2.2
def TheEnds (es : List (PySem.Str × PySem.Str)) (us : List Tr) (s0 : Int) (xs : List PySem.Str) (ys : List Int) : Prop := ys.Pairwise (· < ·) ∧ ∀ x, x ∈ ys ↔ RunTo es us s0 xs x
theorem TheEnds.one {es : List (PySem.Str × PySem.Str)} {us : List Tr} {s0 : Int} {xs : List PySem.Str} {ys zs : List Int} (h : TheEnds es us s0 xs ys) (g : TheEnds es us s0 xs zs) : ys = zs :=
  asc_perm (h.1.imp fun h => Int.le_of_lt h) (g.1.imp fun h => Int.le_of_lt h) ((List.perm_ext_iff_of_nodup (lt_nd h.1) (lt_nd g.1)).2 fun x => (h.2 x).trans (g.2 x).symm)
theorem snoc_inj {α : Type} {xs ys : List α} {a b : α} (h : xs ++ [a] = ys ++ [b]) : xs = ys ∧ a = b := by
  have h1 := congrArg List.dropLast h
  have h2 := congrArg List.getLast? h
  simp at h1 h2
  exact ⟨h1, h2⟩
section
variable {es : List (PySem.Str × PySem.Str)} {us : List Tr} {s0 : Int}
theorem first_ok {ys : List Int} (h : FirstOf es us s0 ys) : TheEnds es us s0 [] ys := by
  refine ⟨h.1, fun x => (h.2 x).trans ⟨fun r => ?_, fun r => ?_⟩⟩
  · refine Reach.sub (P := fun x => RunTo es us s0 [] x) (fun x hx => ?_) (fun t m p => ?_) r
    · rw [List.mem_singleton.mp hx]; exact .start
    · exact .unseen p (mem_grp.1 m).1 (mem_grp.1 m).2
  · generalize e : ([] : List PySem.Str) = xs at r
    induction r with
    | start => exact .start (List.mem_singleton.mpr rfl)
    | unseen h m e2 ih => exact .step (ih e) (mem_grp.2 ⟨m, e2⟩)
    | seen h m e2 ih => simp at e
theorem after_ok {xs : List PySem.Str} {k : PySem.Str} {ys zs : List Int} (h : TheEnds es us s0 xs ys) (g : AfterOf es us ys k zs) : TheEnds es us s0 (xs ++ [k]) zs := by
  refine ⟨g.1, fun x => (g.2 x).trans ⟨fun r => ?_, fun r => ?_⟩⟩
  · refine Reach.sub (P := fun x => RunTo es us s0 (xs ++ [k]) x) (fun x hx => ?_) (fun t m p => ?_) r
    · obtain ⟨t, ht, t1, rfl⟩ := mem_nextOf.1 hx
      exact .seen ((h.2 _).1 t1) (mem_grp.1 ht).1 (mem_grp.1 ht).2
    · exact .unseen p (mem_grp.1 m).1 (mem_grp.1 m).2
  · generalize e : xs ++ [k] = ws at r
    induction r with
    | start => simp at e
    | unseen h m e2 ih => exact .step (ih e) (mem_grp.2 ⟨m, e2⟩)
    | seen h2 m e2 ih =>
      obtain ⟨e3, e4⟩ := snoc_inj e
      subst e3 e4
      exact .start (mem_nextOf.2 ⟨_, mem_grp.2 ⟨m, e2⟩, (h.2 _).2 h2, rfl⟩)
theorem ends_len {xs : List PySem.Str} {ys : List Int} (h : TheEnds es us s0 xs ys) : ys.length ≤ us.length + 1 := by
  have sub : ∀ x ∈ ys, x ∈ s0 :: us.map (·.2.2) := fun x hx => by
    have r := (h.2 x).1 hx
    cases r with
    | start => exact List.mem_cons_self
    | unseen _ m _ => exact List.mem_cons_of_mem _ (List.mem_map.mpr ⟨_, m, rfl⟩)
    | seen _ m _ => exact List.mem_cons_of_mem _ (List.mem_map.mpr ⟨_, m, rfl⟩)
  have := nodup_le (lt_nd h.1) sub
  simpa using this
end
/-- the error leaves with its index -/
def leavesAt (CS : Addr) (H : Hp) (i : Nat) (E : XK) : Prop := ∀ H' d, Same H H' → H' d = none → E (.ref CS) (some d) (L2.upd H' d (.xd [("at", .int (i : Int))]))
section
variable {P : Program} {w : World} {K : PySem.W.Frag} {mg : PySem.Str → Option Value} {base : Heap} {C CV CS : Addr}
end
end Lw

namespace Lw
open PySem PySem.Spec PyProof.Rows L2 Txs
open C8 (pe_gc)
/-! ### short runs are enough; layers of runs -/
inductive RunN (es : List (PySem.Str × PySem.Str)) (us : List Tr) (s0 : Int) : Nat → List PySem.Str → Int → Prop
  | start : RunN es us s0 0 [] s0
  | unseen {n : Nat} {xs : List PySem.Str} {t : Tr} (h : RunN es us s0 n xs t.1) (m : t ∈ us) (e : look es t.2.1 = none) : RunN es us s0 (n + 1) xs t.2.2
  | seen {n : Nat} {xs : List PySem.Str} {t : Tr} {k : PySem.Str} (h : RunN es us s0 n xs t.1) (m : t ∈ us) (e : look es t.2.1 = some k) : RunN es us s0 (n + 1) (xs ++ [k]) t.2.2
section
variable {es : List (PySem.Str × PySem.Str)} {us : List Tr} {s0 : Int}
theorem RunN.to {n : Nat} {xs : List PySem.Str} {x : Int} (h : RunN es us s0 n xs x) : RunTo es us s0 xs x := by
  induction h with
  | start => exact .start
  | unseen _ m e ih => exact .unseen ih m e
  | seen _ m e ih => exact .seen ih m e
theorem RunN.inU {U : List Int} (u0 : s0 ∈ U) (ut : ∀ t ∈ us, t.2.2 ∈ U) {n : Nat} {xs : List PySem.Str} {x : Int} (h : RunN es us s0 n xs x) : x ∈ U := by
  cases h with
  | start => exact u0
  | unseen _ m _ => exact ut _ m
  | seen _ m _ => exact ut _ m
theorem short_step {U : List Int} (u3 : U.length ≤ 3) (u0 : s0 ∈ U) (ut : ∀ t ∈ us, t.2.2 ∈ U) {L : Nat} (IH : ∀ ys y, ys.length < L → RunTo es us s0 ys y → ∃ n, n ≤ 3 * ys.length + 2 ∧ RunN es us s0 n ys y) {xs : List PySem.Str} {x : Int} (hl : xs.length = L) (r : RunTo es us s0 xs x) :
    ∃ n, n ≤ 3 * L + 2 ∧ RunN es us s0 n xs x := by
  have low : ∀ {n : Nat} {xs : List PySem.Str} {y : Int}, xs.length = L → RunN es us s0 n xs y → (∃ n', n' ≤ 3 * L ∧ RunN es us s0 n' xs y) ∨ ∃ n' t, n = n' + 1 ∧ t ∈ us ∧ look es t.2.1 = none ∧ t.2.2 = y ∧ RunN es us s0 n' xs t.1 := by
    intro n xs y hl h
    cases h with
    | start => exact .inl ⟨0, Nat.zero_le _, .start⟩
    | unseen h m e => exact .inr ⟨_, _, rfl, m, e, rfl, h⟩
    | @seen n' zs t k h m e =>
      rw [List.length_append, List.length_singleton] at hl
      obtain ⟨n2, h2, r2⟩ := IH _ _ (by omega) h.to
      exact .inl ⟨n2 + 1, by omega, .seen r2 m e⟩
  induction r with
  | start => exact ⟨0, Nat.zero_le _, .start⟩
  | @seen zs t k h m e _ =>
    rw [List.length_append, List.length_singleton] at hl
    obtain ⟨n, hn, r⟩ := IH _ _ (by omega) h
    exact ⟨n + 1, by omega, .seen r m e⟩
  | @unseen zs t h m e ih =>
    obtain ⟨n, hn, r⟩ := ih hl
    by_cases c1 : ∃ n', n' ≤ 3 * L + 1 ∧ RunN es us s0 n' zs t.1
    · obtain ⟨n', h1, r1⟩ := c1
      exact ⟨n' + 1, by omega, .unseen r1 m e⟩
    have no : ∀ n', n' ≤ 3 * L + 1 → ¬ RunN es us s0 n' zs t.1 := fun n' h1 r1 => c1 ⟨n', h1, r1⟩
    rcases low hl r with ⟨n', h1, r1⟩ | ⟨n1, t1, e1, m1, k1, y1, r1⟩
    · exact absurd r1 (no n' (by omega))
    rcases low hl r1 with ⟨n', h2, r2⟩ | ⟨n2, t2, e2, m2, k2, y2, r2⟩
    · exact absurd (by rw [← y1]; exact .unseen r2 m1 k1) (no (n' + 1) (by omega))
    have nn : n = 3 * L + 2 := by
      by_cases q : n ≤ 3 * L + 1
      · exact absurd r (no n q)
      · omega
    have bU := RunN.inU u0 ut r2
    have cU := RunN.inU u0 ut r1
    have yU := RunN.inU u0 ut r
    have zU := ut t m
    by_cases zb : t.2.2 = t2.1
    · exact ⟨n2, by omega, by rw [zb]; exact r2⟩
    by_cases zc : t.2.2 = t1.1
    · exact ⟨n1, by omega, by rw [zc]; exact r1⟩
    by_cases zy : t.2.2 = t.1
    · exact ⟨n, hn, by rw [zy]; exact r⟩
    have bc : t2.1 ≠ t1.1 := fun q => no (n2 + 1) (by omega) (by rw [← y1]; exact .unseen (by rw [← q]; exact r2) m1 k1)
    have cy : t1.1 ≠ t.1 := fun q => no n1 (by omega) (by rw [← q]; exact r1)
    have byy : t2.1 ≠ t.1 := fun q => no n2 (by omega) (by rw [← q]; exact r2)
    have nd : [t.2.2, t2.1, t1.1, t.1].Nodup := by simp [zb, zc, zy, bc, cy, byy]
    have := nodup_le nd (m := U) fun x hx => by
      simp only [List.mem_cons, List.not_mem_nil, or_false] at hx
      rcases hx with rfl | rfl | rfl | rfl
      · exact zU
      · exact bU
      · exact cU
      · exact yU
    have l4 : ([t.2.2, t2.1, t1.1, t.1] : List Int).length = 4 := rfl
    omega
theorem short {U : List Int} (u3 : U.length ≤ 3) (u0 : s0 ∈ U) (ut : ∀ t ∈ us, t.2.2 ∈ U) : ∀ (L : Nat) (xs : List PySem.Str) (x : Int), xs.length < L → RunTo es us s0 xs x → ∃ n, n ≤ 3 * xs.length + 2 ∧ RunN es us s0 n xs x
  | 0, xs, x, h, _ => absurd h (Nat.not_lt_zero _)
  | L + 1, xs, x, h, r => short_step u3 u0 ut (fun ys y hy ry => short u3 u0 ut L ys y (by omega) ry) rfl r
/-- runs that end with a beginning of the sights -/
theorem RunTo.pre {xs : List PySem.Str} {x : Int} (h : RunTo es us s0 xs x) : ∀ j, j ≤ xs.length → ∃ y, RunTo es us s0 (xs.take j) y := by
  induction h with
  | start => exact fun j _ => ⟨s0, by rw [List.take_nil]; exact .start⟩
  | unseen _ _ _ ih => exact ih
  | @seen zs t k h m e ih =>
    intro j hj
    rw [List.length_append, List.length_singleton] at hj
    by_cases q : j ≤ zs.length
    · rw [List.take_append_of_le_length q]
      exact ih j q
    · have : j = (zs ++ [k]).length := by rw [List.length_append, List.length_singleton]; omega
      rw [this, List.take_length]
      exact ⟨_, .seen h m e⟩
abbrev LP : Type := Int × List PySem.Str
def Pre (ss : List PySem.Str) (xs : List PySem.Str) : Prop := xs = ss.take xs.length
instance (ss xs : List PySem.Str) : Decidable (Pre ss xs) := by unfold Pre; infer_instance
theorem Pre.back {ss xs : List PySem.Str} {k : PySem.Str} (h : Pre ss (xs ++ [k])) : Pre ss xs := by
  unfold Pre at h ⊢
  have := congrArg (List.take xs.length) h
  rw [List.take_append_of_le_length (Nat.le_refl _), List.take_length, List.take_take, List.length_append, Nat.min_eq_left (by omega)] at this
  exact this
/-- what one pair of a layer gives by one step -/
def goes1 (es : List (PySem.Str × PySem.Str)) (p : LP) (t : Tr) : List LP := if t.1 = p.1 then [(t.2.2, p.2 ++ (look es t.2.1).toList)] else []
def goes (es : List (PySem.Str × PySem.Str)) (us : List Tr) (ss : List PySem.Str) (p : LP) : List LP := if Pre ss p.2 then us.flatMap (goes1 es p) else []
def layer (es : List (PySem.Str × PySem.Str)) (us : List Tr) (s0 : Int) (ss : List PySem.Str) : Nat → List LP
  | 0 => [(s0, [])]
  | n + 1 => (layer es us s0 ss n).flatMap (goes es us ss)
theorem mem_goes {ss : List PySem.Str} {p q : LP} : q ∈ goes es us ss p ↔ Pre ss p.2 ∧ ∃ t ∈ us, t.1 = p.1 ∧ q = (t.2.2, p.2 ++ (look es t.2.1).toList) := by
  unfold goes
  by_cases h : Pre ss p.2
  · rw [if_pos h, List.mem_flatMap]
    constructor
    · rintro ⟨t, m, hq⟩
      unfold goes1 at hq
      split at hq
      · rename_i e
        exact ⟨h, t, m, e, List.mem_singleton.mp hq⟩
      · cases hq
    · rintro ⟨_, t, m, e, hq⟩
      exact ⟨t, m, by unfold goes1; rw [if_pos e]; exact List.mem_singleton.mpr hq⟩
  · rw [if_neg h]
    exact ⟨(fun q => absurd q List.not_mem_nil), fun q => absurd q.1 h⟩
theorem layer_run {ss : List PySem.Str} : ∀ {n : Nat} {p : LP}, p ∈ layer es us s0 ss n → RunN es us s0 n p.2 p.1
  | 0, p, h => by rw [List.mem_singleton.mp h]; exact .start
  | n + 1, p, h => by
    obtain ⟨q, hq, hp⟩ := List.mem_flatMap.mp h
    obtain ⟨_, t, m, e, rfl⟩ := mem_goes.1 hp
    have r := layer_run hq
    rw [← e] at r
    cases k : look es t.2.1 with
    | none =>
      show RunN es us s0 (n + 1) (q.2 ++ []) t.2.2
      rw [List.append_nil]
      exact .unseen r m k
    | some z => exact .seen r m k
theorem run_layer {ss : List PySem.Str} {n : Nat} {xs : List PySem.Str} {x : Int} (h : RunN es us s0 n xs x) : Pre ss xs → (x, xs) ∈ layer es us s0 ss n := by
  induction h with
  | start => exact fun _ => List.mem_singleton.mpr rfl
  | @unseen n xs t h m e ih => exact fun p => List.mem_flatMap.mpr ⟨_, ih p, mem_goes.2 ⟨p, t, m, rfl, by rw [e]; simp⟩⟩
  | @seen n xs t k h m e ih => exact fun p => List.mem_flatMap.mpr ⟨_, ih p.back, mem_goes.2 ⟨p.back, t, m, rfl, by rw [e]; rfl⟩⟩
theorem flat_le {α β : Type} {f : α → List β} {c : Nat} : ∀ {l : List α}, (∀ x ∈ l, (f x).length ≤ c) → (l.flatMap f).length ≤ c * l.length
  | [], _ => Nat.zero_le _
  | a :: l, h => by
    rw [List.flatMap_cons, List.length_append, List.length_cons, Nat.mul_succ]
    have h1 := h a List.mem_cons_self
    have h2 := flat_le (l := l) fun x hx => h x (List.mem_cons_of_mem _ hx)
    omega
theorem goes_len {ss : List PySem.Str} (p : LP) : (goes es us ss p).length ≤ us.length := by
  unfold goes
  split
  · have := flat_le (f := goes1 es p) (c := 1) (l := us) fun t _ => by unfold goes1; split <;> simp
    omega
  · exact Nat.zero_le _
theorem layer_len {ss : List PySem.Str} (h5 : us.length ≤ 5) : ∀ n, (layer es us s0 ss n).length ≤ 5 ^ n
  | 0 => Nat.le_refl _
  | n + 1 => by
    have h1 := flat_le (f := goes es us ss) (c := 5) (l := layer es us s0 ss n) fun p _ => Nat.le_trans (goes_len p) h5
    have h2 := layer_len (ss := ss) h5 n
    show ((layer es us s0 ss n).flatMap (goes es us ss)).length ≤ 5 ^ n * 5
    omega
theorem layer_told {ss : List PySem.Str} {n : Nat} {p : LP} (h : p ∈ layer es us s0 ss n) : p.2.length ≤ n := by
  have r := layer_run h
  clear h
  obtain ⟨x, xs⟩ := p
  change RunN es us s0 n xs x at r
  show xs.length ≤ n
  induction r with
  | start => exact Nat.le_refl _
  | unseen _ _ _ ih => omega
  | seen _ _ _ ih => rw [List.length_append]; show _ + 1 ≤ _; omega
end
end Lw

namespace Lw
open PySem PySem.Spec PyProof.Rows L2 Txs
open C8 (pe_gc)
open Ers (Er Clx rs_end)
/-! ### wanted_ends of any row: none, names up to a thing that is no name, or names -/
abbrev SOut : Type := Option (List PySem.Str × Bool)
inductive SRow (K : PySem.W.Frag) (H : Hp) : V → SOut → Prop
  | out {v : V} {t : Value} (ty : TyX K H v t) (no : PySem.W.kitAny K t rowsV = some false) : SRow K H v none
  | row {a : Addr} {xs : List V} {zs : List PySem.Str} {b : Bool} (r : RowAt K H a xs) (few : xs.length ≤ 70) (pre : xs.take zs.length = zs.map V.str) (ok : ∀ z ∈ zs, Nm z)
      (fin : (b = true ∧ ∃ x, xs[zs.length]? = some x ∧ NoNm K H x) ∨ (b = false ∧ xs.length = zs.length)) : SRow K H (.ref a) (some (zs, b))
theorem SRow.same {K : PySem.W.Frag} {H H' : Hp} {v : V} {o : SOut} (h : SRow K H v o) (k : Same H H') : SRow K H' v o := by
  cases h with
  | out ty no => exact .out (tyx_keep ty k) no
  | row r few pre ok fin => exact .row (r.same k) few pre ok (fin.imp (fun ⟨e, x, h1, h2⟩ => ⟨e, x, h1, h2.same k⟩) id)
theorem pre_at {xs : List V} {zs : List PySem.Str} {j : Nat} {x : V} (h : xs.take zs.length = zs.map V.str) (l : j < zs.length) (e : xs[j]? = some x) : ∃ z, zs[j]? = some z ∧ x = .str z := by
  have h2 : (xs.take zs.length)[j]? = some x := by rw [List.getElem?_take, if_pos l]; exact e
  rw [h, List.getElem?_map] at h2
  cases q : zs[j]? with
  | none => rw [q] at h2; cases h2
  | some z => rw [q] at h2; exact ⟨z, rfl, (Option.some.inj h2).symm⟩
theorem pre_le {xs : List V} {zs : List PySem.Str} (h : xs.take zs.length = zs.map V.str) : zs.length ≤ xs.length := by
  have := congrArg List.length h
  rw [List.length_take, List.length_map] at this
  omega
inductive Res where
  | no (i : Int)
  | is (ys : List Int)
def DueIs (es : List (PySem.Str × PySem.Str)) (us : List Tr) (s0 : Int) : SOut → Res → Prop
  | none, r => r = .no (-1)
  | some (zs, b), r => (∃ i : Nat, i < zs.length ∧ (∃ x, RunTo es us s0 (zs.take i) x) ∧ (∀ x, ¬ RunTo es us s0 (zs.take (i + 1)) x) ∧ r = .no (i : Int)) ∨ ∃ ys, TheEnds es us s0 zs ys ∧ ys ≠ [] ∧ r = if b then .no (zs.length : Int) else .is ys
theorem DueIs.one {es : List (PySem.Str × PySem.Str)} {us : List Tr} {s0 : Int} : ∀ {o : SOut} {r r' : Res}, DueIs es us s0 o r → DueIs es us s0 o r' → r = r'
  | none, r, r', h, h' => Eq.trans h (Eq.symm h')
  | some (zs, b), r, r', h, h' => by
    have clash : ∀ {i : Nat} {ys : List Int}, i < zs.length → (∀ x, ¬ RunTo es us s0 (zs.take (i + 1)) x) → TheEnds es us s0 zs ys → ys ≠ [] → False := fun {i ys} il no te ne => by
      cases ys with
      | nil => exact ne rfl
      | cons y ys =>
        obtain ⟨x, hx⟩ := ((te.2 y).1 List.mem_cons_self).pre (i + 1) (by omega)
        exact no x hx
    have two : ∀ {i j : Nat}, i < j → j < zs.length → (∀ x, ¬ RunTo es us s0 (zs.take (i + 1)) x) → (∃ x, RunTo es us s0 (zs.take j) x) → False := fun {i j} ij jl no so => by
      obtain ⟨x, hx⟩ := so
      obtain ⟨y, hy⟩ := hx.pre (i + 1) (by rw [List.length_take]; omega)
      rw [List.take_take, Nat.min_eq_left (by omega)] at hy
      exact no y hy
    rcases h with ⟨i, il, so, no, rfl⟩ | ⟨ys, te, ne, rfl⟩
    · rcases h' with ⟨j, jl, so', no', rfl⟩ | ⟨ys', te', ne', rfl⟩
      · by_cases c : i < j
        · exact (two c jl no so').elim
        · by_cases d : j < i
          · exact (two d il no' so).elim
          · have : i = j := by omega
            rw [this]
      · exact (clash il no te' ne').elim
    · rcases h' with ⟨j, jl, so', no', rfl⟩ | ⟨ys', te', ne', rfl⟩
      · exact (clash jl no' te ne).elim
      · rw [te.one te']
def leavesI (CS : Addr) (H : Hp) (i : Int) (E : XK) : Prop := ∀ H' d, Same H H' → H' d = none → E (.ref CS) (some d) (L2.upd H' d (.xd [("at", .int i)]))
def spWEndsR (K : PySem.W.Frag) (C CV CS : Addr) : Sp := fun vs H Q E => ∃ (A : PlAt) (d : Pl) (B : VwAt) (e : Vw) (v : V) (o : SOut), vs = [.ref A.p, .ref B.p, v] ∧ IsPl C H A d ∧ IsVw CV H B e ∧ (∀ x ∈ d.wanted, 0 ≤ x ∧ x < (d.steps.length : Int)) ∧ SRow K H v o ∧
  (∀ ys q H', DueIs e.sights (wantedOf d.steps d.wanted) d.start o (.is ys) → ys.length ≤ 100 → Same H H' → H q = none → H' q = some (.lst (ys.map V.int)) → Q (.ref q) H') ∧
  (∀ i, DueIs e.sights (wantedOf d.steps d.wanted) d.start o (.no i) → leavesI CS H i E)
section
variable {P : Program} {w : World} {K : PySem.W.Frag} {mg : PySem.Str → Option Value} {base : Heap} {C CV CS : Addr}
theorem ok_wanted_endsR (T : Bt mg) (c_is_row : Cl P w K mg base 1 "is_row" (spIsRow K) []) (c_is_name : Cl P w K mg base 1 "is_name" (spIsName K) []) (c_wanted_by_sight : Cl P w K mg base 3 "wanted_by_sight" (spBySight P w C CV) []) (c_first_ends : Cl P w K mg base 3 "first_ends" (spFirst P w C) []) (c_ends_after : Cl P w K mg base 3 "ends_after" (spAfter P w) [])
    (e_BadSights : Er P w K mg base "BadSights" CS "at" MkT.small) {f : Addr} {fd : FuncData}
    (F : FunD K "wanted_ends" "wanted_ends" (defArgs s_wanted_ends) (defBody s_wanted_ends) (defScope s_wanted_ends) [] [] f fd) : FnOk P w K mg base (L2.CX P w) 5 f fd ["plant", "view", "sights"] (spWEndsR K C CV CS) := by
  refine F.ok sc_wanted_ends (fun vs H Q E h => ?_) (fun cdv A0 outer s H vs Q E hr h => ?_)
  · obtain ⟨A, d, B, e, b, xs, rfl, _⟩ := h
    rfl
  · obtain ⟨A, d, B, e, v, o, rfl, ip, iv, wok, row, good, bad⟩ := h
    have hu := hu_of hr
    refine ⟨_, (pss_cons (ps_if (pt_not (pt_val (pe_cl c_is_row hr (by decide) rfl (pa_cons (pv 2) pa_nil)))) (pss_one (Ers.ps_rs e_BadSights rfl hr (by decide) (takes_of rfl rfl rfl rfl) rfl (pa_cons (pe_un un_neg pe_int) pa_nil))) pss_nil) (pss_cons (ps_set (i := 3) sc_wanted_ends.nd rfl (Or.inl rfl) (pe_cl c_wanted_by_sight hr (by decide) rfl (pa_cons (pv 0) (pa_cons (pv 1) pa_nil)))) (pss_cons (ps_set (i := 4) sc_wanted_ends.nd rfl (Or.inl rfl) (pe_cl c_first_ends hr (by decide) rfl (pa_cons (pv 0) (pa_cons (pv 3) pa_nil)))) (pss_cons (ps_for (passes_of rfl) rfl (pi_enumS rfl T.b_enumerate (pa_cons (pv 2) pa_nil)) (pg_tup rfl (pgs_cons (pg_name (i := 5) sc_wanted_ends.nd rfl (Or.inl rfl)) (pgs_cons (pg_name (i := 6) sc_wanted_ends.nd rfl (Or.inl rfl)) pgs_nil))) (pss_cons (ps_if (pt_not (pt_val (pe_cl c_is_name hr (by decide) rfl (pa_cons (pv 6) pa_nil)))) (pss_one (Ers.ps_rs e_BadSights rfl hr (by decide) (takes_of rfl rfl rfl rfl) rfl (pa_cons (pv 5) pa_nil))) pss_nil) (pss_cons (ps_set (i := 4) sc_wanted_ends.nd rfl (Or.inl rfl) (pe_cl c_ends_after hr (by decide) rfl (pa_cons (pv 3) (pa_cons (pv 4) (pa_cons (pv 6) pa_nil))))) (pss_one (ps_if (pt_not (pt_truth (pv 4) (by intro _; rfl))) (pss_one (Ers.ps_rs e_BadSights rfl hr (by decide) (takes_of rfl rfl rfl rfl) rfl (pa_cons (pv 5) pa_nil))) pss_nil))))) (pss_one (ps_ret (pe_callTy call_list_of (by rfl) T.b_list (by decide +kernel) (pa_cons (pv 4) pa_nil)))))))), ?_⟩
    cases row with
    | out ty no =>
      exact ⟨_, rfl, v, _, false, rfl, ty, no, fun H1 sm1 => ⟨false, rfl, iteT ⟨_, rfl, rs_end ⟨-1, rfl, by decide, by decide⟩ fun dd hd => bad (-1) rfl H1 dd sm1 hd⟩⟩⟩
    | @row a xs zs b r few pre ok fin =>
    obtain ⟨ty0, ty, kt⟩ := r.ty
    refine ⟨_, rfl, _, ty0, true, rfl, ty, kt, fun H1 m1 => ⟨true, rfl, iteF ?_⟩⟩
    have ip1 := ip.same m1
    have iv1 := iv.same m1
    obtain ⟨_, _, w60, _, _⟩ := ip.small
    refine ⟨_, rfl, _, rfl, A, d, B, e, rfl, ip1, iv1, wok, fun t ls H2 m2 t0 ht g2 l61 => ?_⟩
    have wl : (wantedOf d.steps d.wanted).length ≤ 60 := Nat.le_trans (wantedOf_len _ _) w60
    have tb2 : TabAt P w H2 t e.sights (wantedOf d.steps d.wanted) ls := ⟨ht, g2, wl⟩
    have ip2 := ip1.same m2
    refine ⟨_, rfl, _, rfl, A, d, t, e.sights, wantedOf d.steps d.wanted, ls, rfl, ip2, tb2, fun ys0 q0 H3 fo m3 q00 hq0 => ?_⟩
    have m13 := (m1.trans m2).trans m3
    have tb3 := tb2.same m3
    have row3 := r.sq.same m13
    have te0 := first_ok fo
    have zx := pre_le pre
    refine ⟨_, rfl, a, rfl, for_enum (K := K) (xs := xs) row3 (fun i σ H' => ∃ (ys : List Int) (q : Addr) (v5 v6 : Option V), σ = [some (.ref A.p), some (.ref B.p), some (.ref a), some (.ref t), some (.ref q), v5, v6] ∧ Same H3 H' ∧ H' q = some (.tup (ys.map V.int)) ∧
      TheEnds e.sights (wantedOf d.steps d.wanted) d.start (zs.take i) ys ∧ ys ≠ [] ∧ i ≤ zs.length) ?_ ?_ ?_ ?_⟩
    · exact ⟨ys0, q0, _, _, rfl, Same.refl _, hq0, te0, List.ne_nil_of_mem ((te0.2 d.start).2 .start), Nat.zero_le _⟩
    · rintro i σ' H' _ ⟨_, _, _, _, _, sm, _⟩ o e
      exact sm _ _ e
    · rintro i x σ' H4 T hx ⟨ys, q, v5, v6, rfl, sm, hq, te, ne, iz⟩ hT
      have i70 : i < 70 := Nat.lt_of_lt_of_le (List.getElem?_eq_some_iff.mp hx).1 few
      have smn : MkT.small (.int (i : Int)) := ⟨i, rfl, by omega, by omega⟩
      refine ⟨T, _, rfl, SqT.of upd_same, rfl, _, _, rfl, _, _, rfl, rfl, ?_⟩
      have m5 : Same H3 (L2.upd H4 T (.tup [.int (i : Nat), x])) := same_new sm hT
      have q5 : (L2.upd H4 T (.tup [.int (i : Nat), x])) q = some (.tup (ys.map V.int)) := by rw [upd_ne (ne_of_none hq hT)]; exact hq
      generalize L2.upd H4 T (.tup [.int (i : Nat), x]) = H5 at m5 q5 ⊢
      by_cases il : i < zs.length
      · obtain ⟨z, hz, rfl⟩ := pre_at pre il hx
        have nz := ok z (List.mem_of_getElem? hz)
        refine ⟨_, rfl, .inl ⟨z, rfl, nm_size nz, ?_⟩⟩
        rw [nmB_iff.2 nz]
        refine ⟨true, rfl, iteF ?_⟩
        have yl := ends_len te
        refine ⟨_, rfl, _, rfl, _, rfl, t, q, z, e.sights, wantedOf d.steps d.wanted, ls, ys, rfl, tb3.same m5, q5, by omega, fun zs2 q2 H6 ao m6 q20 hq2 => ?_⟩
        have te2 := after_ok te ao
        rw [← take_at hz] at te2
        refine ⟨_, rfl, _, .inr (.inl ⟨_, SqT.of hq2, rfl⟩), ?_⟩
        cases zs2 with
        | nil =>
          refine iteT ⟨_, rfl, rs_end smn fun dd hdd => bad i (.inl ⟨i, il, ?_, (fun x r => ?_), rfl⟩) H6 dd (m13.trans (m5.trans m6)) hdd⟩
          · cases ys with
            | nil => exact absurd rfl ne
            | cons y ys => exact ⟨y, (te.2 y).1 List.mem_cons_self⟩
          · have := (te2.2 x).2 r
            cases this
        | cons z0 zs2 =>
          exact iteF ⟨z0 :: zs2, q2, _, _, rfl, m5.trans m6, hq2, te2, (fun q => nomatch q), il⟩
      · have ie : i = zs.length := by omega
        subst ie
        rw [List.take_length] at te
        rcases fin with ⟨rfl, x2, hx2, nn⟩ | ⟨rfl, xl⟩
        · rw [hx] at hx2
          cases hx2
          have go : ∀ dd, H5 dd = none → E (.ref CS) (some dd) (L2.upd H5 dd (.xd [("at", .int (zs.length : Int))])) := fun dd hdd => bad _ (.inr ⟨ys, te, ne, rfl⟩) H5 dd (m13.trans m5) hdd
          rcases nn with ⟨z, rfl, lz, nz⟩ | ⟨t2, ty2, kt2⟩
          · refine ⟨_, rfl, .inl ⟨z, rfl, lz, ?_⟩⟩
            rw [nz]
            exact ⟨false, rfl, iteT ⟨_, rfl, rs_end smn go⟩⟩
          · exact ⟨_, rfl, .inr ⟨_, t2, rfl, tyx_keep ty2 (m13.trans m5), kt2, false, rfl, iteT ⟨_, rfl, rs_end smn go⟩⟩⟩
        · have := (List.getElem?_eq_some_iff.mp hx).1
          omega
    · rintro σ' H4 ⟨ys, q, v5, v6, rfl, sm, hq, te, ne, iz⟩
      have xz : xs.length = zs.length := by omega
      rw [xz, List.take_length] at te
      rcases fin with ⟨rfl, x2, hx2, nn⟩ | ⟨rfl, xl⟩
      · have := (List.getElem?_eq_some_iff.mp hx2).1
        omega
      have yl := ends_len te
      refine ⟨_, rfl, q, _, rfl, .inr (SqT.of hq), fun p hp => ?_⟩
      exact good ys p _ (.inr ⟨ys, te, ne, rfl⟩) (by omega) (same_new (m13.trans sm) hp) ((m13.trans sm).free hp) upd_same
end
end Lw

namespace Lw
open PySem PySem.Spec PyProof.Rows L2 Txs
open C8 (pe_gc)
/-! ### the law's own search: slots 0 _law_steps_here, 1 _law_wanted, 2 _law_table, 3 _law_states_here, 4 _law_found, 5 _law_at, 6 _law_number, 7 _law_step -/
theorem Rch.doneS {ts : List Tr} {ss : List Int} {n : Nat} {f r : List Int} (h : Rch ts n f r) (nd : f.Nodup) (rc : ∀ x ∈ f, Reach ts ss x) (sm : ∀ s ∈ ss, s ∈ f) (cl : ∀ (i : Nat) (x : Int), i < n → f[i]? = some x → ∀ t ∈ ts, t.1 = x → t.2.2 ∈ f) :
    r.Nodup ∧ ∀ x, x ∈ r ↔ Reach ts ss x := by
  induction h with
  | @stop n f e =>
    refine ⟨nd, fun x => ⟨rc x, fun h => Reach.sub (P := fun x => x ∈ f) sm (fun t m hx => ?_) h⟩⟩
    obtain ⟨i, hi⟩ := List.mem_iff_getElem?.mp hx
    have il : i < n := by
      have := (List.getElem?_eq_some_iff.mp hi).1
      have := List.getElem?_eq_none_iff.mp e
      omega
    exact cl i _ il hi t m rfl
  | @turn n f r s e k ih =>
    obtain ⟨a, b, c, d⟩ := turn_spec s ts f
    have rs := rc s (List.mem_of_getElem? e)
    have mono : ∀ x ∈ f, x ∈ reachTurn ts s f := fun x hx => by
      obtain ⟨i, hi⟩ := List.mem_iff_getElem?.mp hx
      exact List.mem_of_getElem? (a i x hi)
    refine ih (b nd) (fun x hx => ?_) (fun x hx => mono _ (sm x hx)) (fun i x il hi t m et => ?_)
    · rcases c x hx with q | ⟨t, m, e1, e2⟩
      · exact rc x q
      · rw [← e2]
        exact .step (by rw [e1]; exact rs) m
    · by_cases q : i = n
      · subst q
        have := a _ _ e
        rw [show (ts.foldl (reachOne s) f)[i]? = (reachTurn ts s f)[i]? from rfl, hi] at this
        cases this
        exact d t m et
      · have hn : i < f.length := by
          have := (List.getElem?_eq_some_iff.mp e).1
          omega
        have h1 : f[i]? = some f[i] := List.getElem?_eq_getElem hn
        have := a _ _ h1
        rw [show (ts.foldl (reachOne s) f)[i]? = (reachTurn ts s f)[i]? from rfl, hi] at this
        cases this
        exact mono _ (cl i _ (by omega) h1 t m et)
structure FndS (ts : List Tr) (ss : List Int) (f : List Int) : Prop where
  nd : f.Nodup
  sub : ∀ x ∈ f, x ∈ ss ++ ts.map (·.2.2)
theorem FndS.len {ts : List Tr} {ss : List Int} {f : List Int} (h : FndS ts ss f) : f.length ≤ ss.length + ts.length := by
  have := nodup_le h.nd h.sub
  simpa using this
theorem FndS.one {ts : List Tr} {ss : List Int} {s : Int} {f : List Int} {t : Tr} (h : FndS ts ss f) (m : t ∈ ts) : FndS ts ss (reachOne s f t) := by
  unfold reachOne
  split
  · rename_i c
    refine ⟨nd_snoc h.nd c.2, fun x hx => ?_⟩
    rcases List.mem_append.mp hx with q | q
    · exact h.sub x q
    · rw [List.mem_singleton.mp q]
      exact List.mem_append.mpr (.inr (List.mem_map.mpr ⟨t, m, rfl⟩))
  · exact h
theorem States.congr {ts : List Tr} {ss zs ys : List Int} (h : States ts ss ys) (e : ∀ x, x ∈ ss ↔ x ∈ zs) : States ts zs ys :=
  ⟨h.1, fun x => (h.2 x).trans ⟨fun r => Reach.sub (P := Reach ts zs) (fun y hy => .start ((e y).1 hy)) (fun t m p => .step p m) r, fun r => Reach.sub (P := Reach ts ss) (fun y hy => .start ((e y).2 hy)) (fun t m p => .step p m) r⟩⟩
def spClosed (K : PySem.W.Frag) : Sp := fun vs H Q _ => ∃ (pa wa ta sa : Addr) (as : List Addr) (ts : List Tr) (wn : List Int) (es : List (PySem.Str × PySem.Str)) (ss : List Int), vs = [.ref pa, .ref wa, .ref ta, .ref sa] ∧ H pa = some (.lst (as.map V.ref)) ∧ Laid H as ts ∧ H wa = some (.lst (wn.map V.int)) ∧ (∀ x ∈ wn, 0 ≤ x ∧ x < (ts.length : Int)) ∧ wn.length ≤ 31 ∧
  H ta = some (.dK (sgV es)) ∧ Sq K H sa (ss.map V.int) ∧ ss.Nodup ∧ ss.length ≤ 31 ∧
  ∀ ys p H', States (grp es (wantedOf ts wn) none) ss ys → Same H H' → H p = none → H' p = some (.tup (ys.map V.int)) → Q (.ref p) H'
def spOnward : Sp := fun vs H Q _ => ∃ (pa wa ta b : Addr) (k : PySem.Str) (as : List Addr) (ts : List Tr) (wn : List Int) (es : List (PySem.Str × PySem.Str)) (xs : List Int), vs = [.ref pa, .ref wa, .ref ta, .ref b, .str k] ∧ H pa = some (.lst (as.map V.ref)) ∧ Laid H as ts ∧ H wa = some (.lst (wn.map V.int)) ∧ (∀ x ∈ wn, 0 ≤ x ∧ x < (ts.length : Int)) ∧ wn.length ≤ 31 ∧
  H ta = some (.dK (sgV es)) ∧ H b = some (.tup (xs.map V.int)) ∧ xs.length ≤ 100 ∧
  ∀ ys p H', AfterOf es (wantedOf ts wn) xs k ys → Same H H' → H p = none → H' p = some (.tup (ys.map V.int)) → Q (.ref p) H'
section
variable {P : Program} {w : World} {K : PySem.W.Frag} {mg : PySem.Str → Option Value} {base : Heap}
theorem ok_closed (T : Bt mg) {f : Addr} {fd : FuncData} (F : FunD K "_law_closed" "_law_closed" (defArgs s_law_closed) (defBody s_law_closed) (defScope s_law_closed) [] [] f fd) : FnOk P w K mg base CX0 1 f fd ["_law_steps_here", "_law_wanted", "_law_table", "_law_states_here"] (spClosed K) := by
  refine F.ok sc_law_closed (fun vs H Q E h => ?_) (fun cdv A0 outer s H vs Q E hr h => ?_)
  · obtain ⟨pa, wa, ta, sa, as, ts, wn, es, ss, rfl, _⟩ := h
    rfl
  · obtain ⟨pa, wa, ta, sa, as, ts, wn, es, ss, rfl, hpa, la, hwa, wok, w31, hta, hsa, nds, s31, k⟩ := h
    have hu := hu_of hr
    refine ⟨_, PSs.nox (pss_cons (ps_set (i := 4) sc_law_closed.nd rfl (Or.inl rfl) (pe_callTy call_list_of (by rfl) T.b_list (by decide +kernel) (pa_cons (pv 3) pa_nil))) (pss_cons (ps_set (i := 5) sc_law_closed.nd rfl (Or.inl rfl) pe_int) (pss_cons (ps_while PassesOwn.never (pt_cmpR op_lt (pv 5) (pe_callB call_len_seq (by rfl) T.b_len PySem.boot_len (pa_cons (pv 4) pa_nil)) (nomark _)) (pss_cons (ps_for PassesOwn.never rfl (pi_list (pv 1)) (pg_name (i := 6) sc_law_closed.nd rfl (Or.inl rfl)) (pss_cons (ps_set (i := 7) sc_law_closed.nd rfl (Or.inl rfl) (pe_ix ix_list (pv 0) (pv 6) (fun _ _ => rfl))) (pss_one (ps_if (PW.pt (pw_and (pt_cmpR op_eq (pe_ix ix_tup (pv 7) pe_int (fun _ _ => rfl)) (pe_ix ix_list (pv 4) (pv 5) (fun _ _ => rfl)) (nomark _)) (pw_and (pt_cmp (pc_dnotin hu (pe_ix ix_tup (pv 7) pe_int (fun _ _ => rfl)) (pv 2))) (pw_and1 (pt_cmpR op_notIn_seq (pe_ix ix_tup (pv 7) pe_int (fun _ _ => rfl)) (pv 4) (by rfl)))))) (pss_one (ps_expr (pe_bm PySem.F.plainAttrs_list PySem.F.slot_list_append PySem.F.type_list_append mt_append (pv 4) (pa_cons (pe_ix ix_tup (pv 7) pe_int (fun _ _ => rfl)) pa_nil)))) pss_nil)))) (pss_one (ps_aug (i := 5) sc_law_closed.nd rfl (Or.inl rfl) pe_int ip_add)))) (pss_one (ps_ret (pe_callTy call_tuple_of (by rfl) T.b_tuple (by decide +kernel) (pa_cons (pe_callB cr_sorted (by rfl) T.b_sorted (by decide +kernel) (pa_cons (pv 4) pa_nil)) pa_nil))))))), ?_⟩
    refine ⟨_, rfl, sa, _, rfl, hsa, fun p hp => ?_⟩
    obtain ⟨U, hU⟩ : ∃ U, U = grp es (wantedOf ts wn) none := ⟨_, rfl⟩
    have U31 : U.length ≤ 31 := by
      have h1 := grp_len es (wantedOf ts wn) none
      have h2 := wantedOf_len ts wn
      rw [hU]
      omega
    have stt : Same H (L2.upd H p (.lst (ss.map V.int))) := same_new (Same.refl _) hp
    refine ⟨fun m σ H' => ∃ (f : List Int) (n : Nat) (v6 v7 : Option V), σ = [some (.ref pa), some (.ref wa), some (.ref ta), some (.ref sa), some (.ref p), some (.int (n : Int)), v6, v7] ∧ Same H H' ∧ H' p = some (.lst (f.map V.int)) ∧ FndS U ss f ∧ n ≤ f.length ∧ m = ss.length + U.length + 1 - n ∧ (∀ r, Rch U n f r → Rch U 0 ss r), ?_, ?_⟩
    · exact ⟨_, ss, 0, _, _, rfl, stt, upd_same, ⟨nds, fun x hx => List.mem_append.mpr (.inl hx)⟩, Nat.zero_le _, rfl, fun r q => q⟩
    · rintro m σ H1 ⟨f, n, v6, v7, rfl, sm, hf, fn, nl, rfl, rc⟩
      refine ⟨_, rfl, _, rfl, p, _, rfl, .inl (SqL.of hf), _, _, rfl, rfl, _, rfl, ?_⟩
      by_cases lt : n < f.length
      · rw [decide_eq_true (by rw [List.length_map]; omega)]
        refine iteT ⟨fun σ' H' => ∃ m' < ss.length + U.length + 1 - n, ∃ (f : List Int) (n : Nat) (v6 v7 : Option V), σ' = [some (.ref pa), some (.ref wa), some (.ref ta), some (.ref sa), some (.ref p), some (.int (n : Int)), v6, v7] ∧ Same H H' ∧ H' p = some (.lst (f.map V.int)) ∧ FndS U ss f ∧ n ≤ f.length ∧ m' = ss.length + U.length + 1 - n ∧ (∀ r, Rch U n f r → Rch U 0 ss r), fun σ' H' z => ?_, ?_⟩
        · obtain ⟨m', l, z⟩ := z
          exact ⟨m', l, z⟩
        obtain ⟨x, hx⟩ : ∃ x, f[n]? = some x := ⟨_, List.getElem?_eq_getElem lt⟩
        refine ⟨_, rfl, wa, rfl, ⟨_, SqL.of (sm _ _ hwa)⟩, for_list (K := K) (xs := wn.map V.int) (fun i σ H' => ∃ (g : List Int) (v6 v7 : Option V), σ = [some (.ref pa), some (.ref wa), some (.ref ta), some (.ref sa), some (.ref p), some (.int (n : Int)), v6, v7] ∧ Same H H' ∧ g = (grp es (wantedOf ts (wn.take i)) none).foldl (reachOne x) f ∧ H' p = some (.lst (g.map V.int)) ∧ FndS U ss g ∧ f.length ≤ g.length ∧ g[n]? = some x) ?_ ?_ ?_ ?_⟩
        · exact ⟨f, _, _, rfl, sm, by simp [wantedOf, grp], hf, fn, Nat.le_refl _, hx⟩
        · rintro i σ' H' _ ⟨_, _, _, _, sm, _⟩
          exact SqL.of (sm _ _ hwa)
        · rintro i y σ H2 hy ⟨g, v6, v7, rfl, sm, eg, hg, gn, gl, gx⟩
          obtain ⟨nn, hn, rfl⟩ := int_at' hy
          have il : i < wn.length := (List.getElem?_eq_some_iff.mp hn).1
          obtain ⟨n0, n1⟩ := wok nn (List.mem_of_getElem? hn)
          obtain ⟨t, ht⟩ : ∃ t, ts[nn.toNat]? = some t := ⟨_, List.getElem?_eq_getElem (by omega)⟩
          obtain ⟨qt, hat, hqt⟩ := la.at_ ht
          have at1 : atI (as.map V.ref) nn = some (.ref qt) := by
            have := atI_nat (j := nn.toNat) (xs := as.map V.ref) (by rw [List.getElem?_map, hat]; rfl)
            rw [show ((nn.toNat : Nat) : Int) = nn by omega] at this
            exact this
          have wsn : wantedOf ts (wn.take (i + 1)) = wantedOf ts (wn.take i) ++ [t] := by rw [take_at hn, wantedOf_snoc ht]
          have tw : t ∈ wantedOf ts wn := mem_wantedOf.2 ⟨nn, List.mem_of_getElem? hn, ht⟩
          refine ⟨_, rfl, _, rfl, pa, _, _, .ref qt, rfl, rfl, SqL.of (sm _ _ hpa), at1, ?_⟩
          refine ⟨_, rfl, qt, _, _, .int t.1, rfl, rfl, SqT.of (sm _ _ hqt), rfl, _, rfl, _, rfl, p, _, _, .int x, rfl, rfl, SqL.of hg, atI_nat (by rw [List.getElem?_map, gx]; rfl), rfl, _, rfl, ?_⟩
          have stay : ¬ (look es t.2.1 = none ∧ t.1 = x ∧ t.2.2 ∉ g) → (grp es (wantedOf ts (wn.take (i + 1))) none).foldl (reachOne x) f = g := fun c => by
            rw [wsn, grp_snoc]
            by_cases q : look es t.2.1 = none
            · rw [if_pos q, List.foldl_append, ← eg]
              show reachOne x g t = g
              unfold reachOne
              rw [if_neg fun z => c ⟨q, z.1, z.2⟩]
            · rw [if_neg q, ← eg]
          by_cases c1 : t.1 = x
          · rw [show decide (V.int t.1 = V.int x) = true from decide_eq_true (by rw [c1])]
            refine iteT ⟨_, rfl, qt, _, _, .str t.2.1, rfl, rfl, SqT.of (sm _ _ hqt), rfl, _, rfl, ta, _, rfl, DGet.k (k := .inr t.2.1) (sm _ _ hta), _, rfl, ?_⟩
            have lv := look_val es t.2.1
            cases lq : look es t.2.1 with
            | some z =>
              rw [lq] at lv
              rw [lv]
              exact iteF ⟨g, _, _, rfl, sm, (stay fun c => by rw [lq] at c; cases c.1).symm, hg, gn, gl, gx⟩
            | none =>
              rw [lq] at lv
              rw [lv]
              refine iteT ⟨_, rfl, qt, _, _, .int t.2.2, rfl, rfl, SqT.of (sm _ _ hqt), rfl, _, rfl, p, _, rfl, .inl (SqL.of hg), rfl, all_flat_ints g, _, rfl, ?_⟩
              rw [inV_ints]
              by_cases c2 : t.2.2 ∈ g
              · rw [decide_eq_true c2]
                exact iteF ⟨g, _, _, rfl, sm, (stay fun c => c.2.2 c2).symm, hg, gn, gl, gx⟩
              · rw [decide_eq_false c2]
                have tu : t ∈ U := by rw [hU]; exact mem_grp.2 ⟨tw, lq⟩
                have e2 : reachOne x g t = g ++ [t.2.2] := by unfold reachOne; rw [if_pos ⟨c1, c2⟩]
                have g2 := gn.one (s := x) tu
                have gx2 := one_keeps (s := x) (t := t) gx
                have gl2 : g.length ≤ (reachOne x g t).length := by rw [e2]; simp
                refine iteT ⟨_, rfl, .inl ⟨rfl, _, SqL.of hg⟩, _, rfl, qt, _, _, .int t.2.2, rfl, rfl, SqT.of (sm _ _ hqt), rfl, p, _, _, rfl, rfl, hg, by rw [List.length_map]; exact small1000 (by have := gn.len; omega), ?_⟩
                exact ⟨reachOne x g t, _, _, rfl, same_put sm hp, by rw [wsn, grp_snoc, if_pos lq, List.foldl_append, ← eg]; rfl, by rw [upd_same, e2, List.map_append]; rfl, g2, Nat.le_trans gl gl2, gx2⟩
          · rw [show decide (V.int t.1 = V.int x) = false from decide_eq_false fun z => c1 (by cases z; rfl)]
            exact iteF ⟨g, _, _, rfl, sm, (stay fun c => c1 c.2.1).symm, hg, gn, gl, gx⟩
        · rintro σ H2 ⟨g, v6, v7, rfl, sm, eg, hg, gn, gl, gx⟩
          rw [List.length_map, List.take_length, ← hU] at eg
          have fl := fn.len
          refine ⟨_, rfl, _, _, rfl, rfl, ss.length + U.length + 1 - (n + 1), by omega, g, n + 1, _, _, rfl, sm, hg, gn, by omega, rfl, fun r q => rc r (.turn hx ?_)⟩
          have : reachTurn U x f = g := eg.symm
          rw [this]; exact q
      · rw [decide_eq_false (by rw [List.length_map]; omega)]
        refine iteF ⟨_, rfl, p, f, rfl, SqL.of hf, by have := fn.len; omega, fun ys q pm asc hq => ?_⟩
        obtain ⟨d1, d2⟩ := (rc f (.stop (List.getElem?_eq_none (by omega)))).doneS (ss := ss) nds (fun x hx => .start hx) (fun x hx => hx) (fun i x il => absurd il (by omega))
        have m2 := same_new sm hq (o := .lst (ys.map V.int))
        refine ⟨q, _, rfl, .inl ⟨SqL.of upd_same, fun r hr2 => ?_⟩⟩
        exact k ys r _ ⟨lt_of_nd asc (pm.nodup_iff.2 d1), fun x => by rw [← hU]; exact pm.mem_iff.trans (d2 x)⟩ (same_new m2 hr2) (m2.free hr2) upd_same
theorem cl_closed (T : Bt mg) (a : At K mg "_law_closed" s_law_closed) : Cl P w K mg base 1 "_law_closed" (spClosed K) [] := a.cal (ps := ["_law_steps_here", "_law_wanted", "_law_table", "_law_states_here"]) (fun _ _ F => ok_closed T F) (fun _ _ _ _ _ _ us hl => match us, hl with | [_, _, _, _], _ => rfl)
theorem ok_onward (T : Bt mg) (c_law_closed : Cl P w K mg base 1 "_law_closed" (spClosed K) []) {f : Addr} {fd : FuncData} (F : FunD K "_law_onward" "_law_onward" (defArgs s_law_onward) (defBody s_law_onward) (defScope s_law_onward) [] [] f fd) : FnOk P w K mg base CX0 2 f fd ["_law_steps_here", "_law_wanted", "_law_table", "_law_states_here", "_law_sight"] spOnward := by
  refine F.ok sc_law_onward (fun vs H Q E h => ?_) (fun cdv A0 outer s H vs Q E hr h => ?_)
  · obtain ⟨pa, wa, ta, b, kk, as, ts, wn, es, xs, rfl, _⟩ := h
    rfl
  · obtain ⟨pa, wa, ta, b, kk, as, ts, wn, es, xs, rfl, hpa, la, hwa, wok, w31, hta, hb, x100, k⟩ := h
    have hu := hu_of hr
    refine ⟨_, PSs.nox (pss_cons (ps_set (i := 5) sc_law_onward.nd rfl (Or.inl rfl) (pe_lst pa_nil)) (pss_cons (ps_for PassesOwn.never rfl (pi_list (pv 1)) (pg_name (i := 6) sc_law_onward.nd rfl (Or.inl rfl)) (pss_cons (ps_set (i := 7) sc_law_onward.nd rfl (Or.inl rfl) (pe_ix ix_list (pv 0) (pv 6) (fun _ _ => rfl))) (pss_one (ps_if (PW.pt (pw_and (pt_cmpR op_in_seq (pe_ix ix_tup (pv 7) pe_int (fun _ _ => rfl)) (pv 3) (by rfl)) (pw_and (pt_cmp (pc_din hu (pe_ix ix_tup (pv 7) pe_int (fun _ _ => rfl)) (pv 2))) (pw_and (pt_cmpR op_eq (pe_dget hu (pv 2) (pe_ix ix_tup (pv 7) pe_int (fun _ _ => rfl)) (fun _ _ => rfl)) (pv 4) (nomark _)) (pw_and1 (pt_cmpR op_notIn_seq (pe_ix ix_tup (pv 7) pe_int (fun _ _ => rfl)) (pv 5) (by rfl))))))) (pss_one (ps_expr (pe_bm PySem.F.plainAttrs_list PySem.F.slot_list_append PySem.F.type_list_append mt_append (pv 5) (pa_cons (pe_ix ix_tup (pv 7) pe_int (fun _ _ => rfl)) pa_nil)))) pss_nil)))) (pss_one (ps_ret (pe_cl c_law_closed hr (by decide) rfl (pa_cons (pv 0) (pa_cons (pv 1) (pa_cons (pv 2) (pa_cons (pv 5) pa_nil))))))))), ?_⟩
    refine ⟨Nat.zero_le _, fun p hp => ?_⟩
    have m1 := same_new (Same.refl H) hp (o := .lst [])
    have p1 : (L2.upd H p (.lst [])) p = some (.lst (([] : List Int).map V.int)) := upd_same
    generalize L2.upd H p (.lst []) = H1 at m1 p1 ⊢
    refine ⟨_, rfl, wa, rfl, ⟨_, SqL.of (m1 _ _ hwa)⟩, for_list (K := K) (xs := wn.map V.int) (fun i σ H' => ∃ (zs : List Int) (v6 v7 : Option V), σ = [some (.ref pa), some (.ref wa), some (.ref ta), some (.ref b), some (.str kk), some (.ref p), v6, v7] ∧ Same H H' ∧ H' p = some (.lst (zs.map V.int)) ∧ zs.Nodup ∧ zs.length ≤ i ∧ ∀ x, x ∈ zs ↔ x ∈ nextOf xs (grp es (wantedOf ts (wn.take i)) (some kk))) ?_ ?_ ?_ ?_⟩
    · exact ⟨[], _, _, rfl, m1, p1, by simp, Nat.le_refl _, fun x => by simp [wantedOf, grp, nextOf]⟩
    · rintro i σ' H' _ ⟨_, _, _, _, sm, _⟩
      exact SqL.of (sm _ _ hwa)
    · rintro i y σ H2 hy ⟨zs, v6, v7, rfl, sm, hz, nd, le, at_⟩
      obtain ⟨nn, hn, rfl⟩ := int_at' hy
      have il : i < wn.length := (List.getElem?_eq_some_iff.mp hn).1
      obtain ⟨n0, n1⟩ := wok nn (List.mem_of_getElem? hn)
      obtain ⟨t, ht⟩ : ∃ t, ts[nn.toNat]? = some t := ⟨_, List.getElem?_eq_getElem (by omega)⟩
      obtain ⟨qt, hat, hqt⟩ := la.at_ ht
      have at1 : atI (as.map V.ref) nn = some (.ref qt) := by
        have := atI_nat (j := nn.toNat) (xs := as.map V.ref) (by rw [List.getElem?_map, hat]; rfl)
        rw [show ((nn.toNat : Nat) : Int) = nn by omega] at this
        exact this
      have wsn : wantedOf ts (wn.take (i + 1)) = wantedOf ts (wn.take i) ++ [t] := by rw [take_at hn, wantedOf_snoc ht]
      have qt2 := sm _ _ hqt
      have ta2 := sm _ _ hta
      have more : ∀ x, x ∈ nextOf xs (grp es (wantedOf ts (wn.take (i + 1))) (some kk)) ↔ x ∈ nextOf xs (grp es (wantedOf ts (wn.take i)) (some kk)) ∨ (look es t.2.1 = some kk ∧ t.1 ∈ xs ∧ x = t.2.2) := fun x => by
        rw [wsn, grp_snoc]
        by_cases c : look es t.2.1 = some kk
        · rw [if_pos c, nextOf_snoc]
          by_cases d : t.1 ∈ xs
          · rw [if_pos d, List.mem_append, List.mem_singleton]
            exact or_congr Iff.rfl ⟨fun e => ⟨c, d, e⟩, fun e => e.2.2⟩
          · rw [if_neg d]
            exact ⟨.inl, fun z => z.elim id fun e => absurd e.2.1 d⟩
        · rw [if_neg c]
          exact ⟨.inl, fun z => z.elim id fun e => absurd e.1 c⟩
      have stay : ¬ (look es t.2.1 = some kk ∧ t.1 ∈ xs ∧ t.2.2 ∉ zs) → ∀ x, x ∈ zs ↔ x ∈ nextOf xs (grp es (wantedOf ts (wn.take (i + 1))) (some kk)) := fun c x => by
        rw [more, ← at_ x]
        exact ⟨.inl, fun z => z.elim id fun ⟨e1, e2, e3⟩ => by rw [e3]; exact Classical.byContradiction fun e4 => c ⟨e1, e2, e4⟩⟩
      refine ⟨_, rfl, _, rfl, pa, _, _, .ref qt, rfl, rfl, SqL.of (sm _ _ hpa), at1, ?_⟩
      refine ⟨_, rfl, qt, _, _, .int t.1, rfl, rfl, SqT.of qt2, rfl, _, rfl, b, _, rfl, .inr (SqT.of (sm _ _ hb)), rfl, all_flat_ints xs, _, rfl, ?_⟩
      rw [inV_ints]
      by_cases c0 : t.1 ∈ xs
      · rw [decide_eq_true c0]
        refine iteT ⟨_, rfl, qt, _, _, .str t.2.1, rfl, rfl, SqT.of qt2, rfl, _, rfl, ta, _, rfl, DGet.k (k := .inr t.2.1) ta2, _, rfl, ?_⟩
        have lv := look_val es t.2.1
        cases lq : look es t.2.1 with
        | none =>
          rw [lq] at lv
          rw [lv]
          exact iteF ⟨zs, _, _, rfl, sm, hz, nd, by omega, stay fun c => by rw [lq] at c; cases c.1⟩
        | some z =>
          rw [lq] at lv
          have dg := DGet.k (k := .inr t.2.1) ta2
          rw [lv] at dg ⊢
          refine iteT ⟨_, rfl, _, rfl, qt, _, _, .str t.2.1, rfl, rfl, SqT.of qt2, rfl, ta, .str z, rfl, dg, _, rfl, rfl, _, rfl, ?_⟩
          by_cases c1 : z = kk
          · rw [show decide (V.str z = V.str kk) = true from decide_eq_true (by rw [c1])]
            refine iteT ⟨_, rfl, qt, _, _, .int t.2.2, rfl, rfl, SqT.of qt2, rfl, _, rfl, p, _, rfl, .inl (SqL.of hz), rfl, all_flat_ints zs, _, rfl, ?_⟩
            rw [inV_ints]
            by_cases c2 : t.2.2 ∈ zs
            · rw [decide_eq_true c2]
              exact iteF ⟨zs, _, _, rfl, sm, hz, nd, by omega, stay fun c => c.2.2 c2⟩
            · rw [decide_eq_false c2]
              refine iteT ⟨_, rfl, .inl ⟨rfl, _, SqL.of hz⟩, _, rfl, qt, _, _, .int t.2.2, rfl, rfl, SqT.of qt2, rfl, p, _, _, rfl, rfl, hz, by rw [List.length_map]; exact small1000 (by omega), ?_⟩
              refine ⟨zs ++ [t.2.2], _, _, rfl, same_put sm hp, by rw [upd_same, List.map_append]; rfl, nd_snoc nd c2, by rw [List.length_append]; show zs.length + 1 ≤ i + 1; omega, fun x => ?_⟩
              rw [more, List.mem_append, List.mem_singleton, ← at_ x]
              exact or_congr Iff.rfl ⟨fun e => ⟨by rw [lq, c1], c0, e⟩, fun e => e.2.2⟩
          · rw [show decide (V.str z = V.str kk) = false from decide_eq_false fun q => c1 (by injection q)]
            exact iteF ⟨zs, _, _, rfl, sm, hz, nd, by omega, stay fun c => by rw [lq] at c; exact c1 (by injection c.1)⟩
      · rw [decide_eq_false c0]
        exact iteF ⟨zs, _, _, rfl, sm, hz, nd, by omega, stay fun c => c0 c.2.1⟩
    · rintro σ H2 ⟨zs, v6, v7, rfl, sm, hz, nd, le, at_⟩
      rw [List.length_map] at le
      rw [List.length_map, List.take_length] at at_
      refine ⟨_, rfl, _, rfl, _, rfl, _, rfl, pa, wa, ta, p, as, ts, wn, es, zs, rfl, sm _ _ hpa, la.same sm, sm _ _ hwa, wok, w31, sm _ _ hta, .inl (SqL.of hz), nd, by omega, fun ys q H3 st m3 q0 hq => ?_⟩
      exact k ys q H3 (st.congr at_) (sm.trans m3) (sm.free q0) hq
theorem cl_onward (T : Bt mg) (c_law_closed : Cl P w K mg base 1 "_law_closed" (spClosed K) []) (a : At K mg "_law_onward" s_law_onward) : Cl P w K mg base 2 "_law_onward" spOnward [] := a.cal (ps := ["_law_steps_here", "_law_wanted", "_law_table", "_law_states_here", "_law_sight"]) (fun _ _ F => ok_onward T c_law_closed F) (fun _ _ _ _ _ _ us hl => match us, hl with | [_, _, _, _, _], _ => rfl)
end
end Lw

namespace Lw
open PySem PySem.Spec PyProof.Rows L2 Txs
open C8 (pe_gc)
/-! ### a drawn wanted run: slots 0 _law_script, 1 _law_steps_here, 2 _law_wanted, 3 _law_start, 4 _law_run, 5 _law_state, 6 _law_at, 7 _law_choices, 8 _law_number -/
def pickW (ts : List Tr) (s : Int) (wn : List Int) : List Int := wn.filter fun n => match ts[n.toNat]? with
  | some t => decide (t.1 = s)
  | none => false
theorem pickW_snoc {ts : List Tr} {s : Int} {wn : List Int} {n : Int} {t : Tr} (h : ts[n.toNat]? = some t) : pickW ts s (wn ++ [n]) = if t.1 = s then pickW ts s wn ++ [n] else pickW ts s wn := by
  unfold pickW
  rw [List.filter_append]
  by_cases e : t.1 = s
  · rw [if_pos e]
    simp [h, e]
  · rw [if_neg e]
    simp [h, e]
theorem pickW_len (ts : List Tr) (s : Int) (wn : List Int) : (pickW ts s wn).length ≤ wn.length := (List.filter_sublist).length_le
theorem pickW_at {ts : List Tr} {s : Int} {wn : List Int} {n : Int} (h : n ∈ pickW ts s wn) : n ∈ wn ∧ ∃ t, ts[n.toNat]? = some t ∧ t.1 = s := by
  obtain ⟨m, e⟩ := List.mem_filter.mp h
  cases q : ts[n.toNat]? with
  | none => rw [q] at e; cases e
  | some t => rw [q] at e; exact ⟨m, t, rfl, of_decide_eq_true e⟩
theorem three_more (a : Addr) (n : Nat) : [V.ref a, V.int (3 + (n : Int))] ++ [] = [V.ref a, V.int ((3 + n : Nat) : Int)] := by
  have e : (3 : Int) + (n : Int) = ((3 + n : Nat) : Int) := by omega
  rw [e]
  rfl
def spWRun (K : PySem.W.Frag) : Sp := fun vs H Q _ => ∃ (sa pa wa : Addr) (s : Int) (ns : List Int) (as : List Addr) (ts : List Tr) (wn : List Int), vs = [.ref sa, .ref pa, .ref wa, .int s] ∧ SqL K H sa (ns.map V.int) ∧ H pa = some (.lst (as.map V.ref)) ∧ Laid H as ts ∧ H wa = some (.lst (wn.map V.int)) ∧ (∀ x ∈ wn, 0 ≤ x ∧ x < (ts.length : Int)) ∧ wn.length ≤ 60 ∧
  ∀ q rs us H', Same H H' → H q = none → H' q = some (.tup (runV rs)) → RunOk ts s rs us → rs.length ≤ 60 → (∀ n ∈ rs, (n : Int) ∈ wn) → Q (.ref q) H'
section
variable {P : Program} {w : World} {K : PySem.W.Frag} {mg : PySem.Str → Option Value} {base : Heap}
theorem ok_wrun (T : Bt mg) (c_law_stream : Cl P w K mg base 1 "_law_stream" (spStream K) []) (c_law_draw : Cl P w K mg base 1 "_law_draw" spDraw []) {f : Addr} {fd : FuncData} (F : FunD K "_law_wanted_run" "_law_wanted_run" (defArgs s_law_wanted_run) (defBody s_law_wanted_run) (defScope s_law_wanted_run) [] [] f fd) : FnOk P w K mg base CX0 2 f fd ["_law_script", "_law_steps_here", "_law_wanted", "_law_start"] (spWRun K) := by
  refine F.ok sc_law_wanted_run (fun vs H Q E h => ?_) (fun cdv A0 outer s0 H vs Q E hr h => ?_)
  · obtain ⟨sa, pa, wa, s, ns, as, ts, wn, rfl, _⟩ := h
    rfl
  · obtain ⟨sa, pa, wa, s, ns, as, ts, wn, rfl, hS, hp, la, hw, wok, w60, k⟩ := h
    have hu64 := hu64_of hr
    refine ⟨_, PSs.nox (pss_cons (ps_set (i := 4) sc_law_wanted_run.nd rfl (Or.inl rfl) (pe_lst pa_nil)) (pss_cons (ps_set (i := 5) sc_law_wanted_run.nd rfl (Or.inr rfl) (pv 3)) (pss_cons (ps_for PassesOwn.never rfl (pi_range2 rfl T.b_range (pa_cons pe_int (pa_cons (pe_callB (call_min2 rfl) (by rfl) T.b_min (by decide +kernel) (pa_cons (pe_callB call_len_seq (by rfl) T.b_len PySem.boot_len (pa_cons (pv 0) pa_nil)) (pa_cons pe_int pa_nil))) pa_nil))) (pg_name (i := 6) sc_law_wanted_run.nd rfl (Or.inl rfl)) (pss_cons (ps_setLc (i := 7) (own := [("_law_number", 8)]) rfl sc_law_wanted_run.nd rfl rfl (sw_true rfl rfl rfl (by decide +kernel)) (pi_list (pv 2)) (blkOk_by (N := N_law_wanted_run) (sc := defScope s_law_wanted_run) (by decide +kernel)) (fun _ _ _ _ _ => (pg_name (i := 8) sc_law_wanted_run.nd rfl (Or.inl rfl))) (fun _ _ _ _ _ => (pts_one (pt_cmpR op_eq (pe_ix (ixT K) (pe_ix (ixL K) (pv 1) (pv 8) (fun _ _ => rfl)) pe_int (fun _ _ => rfl)) (pv 5) (nomark _)))) (fun _ _ _ _ _ => (pv 8))) (pss_one (ps_if (pt_cmpR (op_neD hu64) (pv 7) (pe_lst pa_nil) (nomark _)) (pss_cons (ps_expr (pe_bm PySem.F.plainAttrs_list PySem.F.slot_list_append PySem.F.type_list_append mt_append (pv 4) (pa_cons (pe_ix ix_list (pv 7) (pe_cl c_law_draw hr (by decide) rfl (pa_cons (pe_cl c_law_stream hr (by decide) rfl (pa_cons (pv 0) (pa_cons (pv 6) pa_nil))) (pa_cons (pe_callB call_len_seq (by rfl) T.b_len PySem.boot_len (pa_cons (pv 7) pa_nil)) pa_nil))) (fun _ _ => rfl)) pa_nil))) (pss_one (ps_set (i := 5) sc_law_wanted_run.nd rfl (Or.inr rfl) (pe_ix ix_tup (pe_ix ix_list (pv 1) (pe_ix ix_list (pv 4) (pe_un un_neg pe_int) (fun _ _ => rfl)) (fun _ _ => rfl)) pe_int (fun _ _ => rfl))))) pss_nil)))) (pss_one (ps_ret (pe_callTy call_tuple_of (by rfl) T.b_tuple (by decide +kernel) (pa_cons (pv 4) pa_nil))))))), ?_⟩
    refine ⟨Nat.zero_le _, fun q hq => ?_⟩
    have m1 := same_new (Same.refl H) hq (o := .lst [])
    have q1 : (L2.upd H q (.lst [])) q = some (.lst (runV [])) := upd_same
    generalize L2.upd H q (.lst []) = H1 at m1 q1 ⊢
    refine ⟨_, rfl, _, rfl, sa, _, rfl, .inl (sqL_keep hS fun o e => m1 _ _ e), _, _, rfl, _, _, rfl, ?_⟩
    obtain ⟨N, hN, N60, bN⟩ : ∃ N : Nat, ((if (63 : Int) < ((ns.map V.int).length : Int) then (63 : Int) else ((ns.map V.int).length : Int)) - 3).toNat = N ∧ N ≤ 60 ∧ (-(2 ^ 62) ≤ (3 : Int) ∧ (3 : Int) < 2 ^ 62 ∧ -(2 ^ 62) ≤ (if (63 : Int) < ((ns.map V.int).length : Int) then (63 : Int) else ((ns.map V.int).length : Int)) ∧ (if (63 : Int) < ((ns.map V.int).length : Int) then (63 : Int) else ((ns.map V.int).length : Int)) < 2 ^ 62) := by
      refine ⟨_, rfl, ?_, ?_⟩
      · split <;> omega
      · refine ⟨by decide, by decide, ?_, ?_⟩
        · split <;> omega
        · split <;> omega
    refine ⟨bN, ?_⟩
    rw [hN]
    refine for_range (n := N) (fun j σ H' => ∃ (rs : List Nat) (us : List Tr) (v6 v7 v8 : Option V), σ = [some (.ref sa), some (.ref pa), some (.ref wa), some (.int s), some (.ref q), some (.int (endOf s us)), v6, v7, v8] ∧ Same H H' ∧ H' q = some (.lst (runV rs)) ∧ RunOk ts s rs us ∧ rs.length ≤ j ∧ ∀ n ∈ rs, (n : Int) ∈ wn) ?_ ?_ ?_
    · exact ⟨[], [], _, _, _, rfl, m1, q1, .nil _ _, Nat.le_refl _, fun n h => nomatch h⟩
    · rintro j σ' H2 hj ⟨rs, us, v6, v7, v8, rfl, m2, q2, ok, le, inw⟩
      have p2 := m2 _ _ hp
      refine ⟨_, rfl, wa, rfl, ⟨_, SqL.of (m2 _ _ hw)⟩, fun D hD => ?_⟩
      have nqD : q ≠ D := ne_of_none q2 hD
      refine lc_list (K := K) (xs := wn.map V.int) (fun i H' => Same H2 H' ∧ H' D = some (.lst ((pickW ts (endOf s us) (wn.take i)).map V.int))) ?_ ?_ ?_ ?_
      · exact ⟨same_new (Same.refl _) hD, upd_same⟩
      · exact fun i H' _ ⟨sm, _⟩ => SqL.of (sm _ _ (m2 _ _ hw))
      · rintro i x H' hx ⟨sm, hl⟩
        obtain ⟨nn, hn, rfl⟩ := int_at' hx
        have il : i < wn.length := (List.getElem?_eq_some_iff.mp hn).1
        obtain ⟨n0, n1⟩ := wok nn (List.mem_of_getElem? hn)
        obtain ⟨t, ht⟩ : ∃ t, ts[nn.toNat]? = some t := ⟨_, List.getElem?_eq_getElem (by omega)⟩
        obtain ⟨qa, ha, hqa⟩ := la.at_ ht
        have at1 : atI (as.map V.ref) nn = some (.ref qa) := by
          have := atI_nat (j := nn.toNat) (xs := as.map V.ref) (by rw [List.getElem?_map, ha]; rfl)
          rw [show ((nn.toNat : Nat) : Int) = nn by omega] at this
          exact this
        have q3 := sm _ _ (m2 _ _ hqa)
        have pl := pickW_len ts (endOf s us) (wn.take i)
        rw [List.length_take] at pl
        refine ⟨rfl, _, rfl, _, rfl, pa, _, _, .ref qa, rfl, rfl, SqL.of (sm _ _ p2), at1, qa, _, _, .int t.1, rfl, rfl, SqT.of q3, rfl, _, rfl, rfl, _, rfl, ?_⟩
        by_cases e : t.1 = endOf s us
        · rw [show decide (V.int t.1 = V.int (endOf s us)) = true from decide_eq_true (by rw [e])]
          refine iteT ⟨_, rfl, _, hl, by rw [List.length_map]; exact small1000 (by omega), same_put sm hD, ?_⟩
          rw [upd_same, take_at hn, pickW_snoc ht, if_pos e, List.map_append]
          rfl
        · rw [show decide (V.int t.1 = V.int (endOf s us)) = false from decide_eq_false fun z => e (by injection z)]
          refine iteF ⟨sm, ?_⟩
          rw [take_at hn, pickW_snoc ht, if_neg e]
          exact hl
      rintro H3 ⟨sm, hl⟩
      rw [List.length_map, List.take_length] at hl
      have m3 := m2.trans sm
      have q3 := sm _ _ q2
      have D0 : H D = none := m2.free hD
      have cl := pickW_len ts (endOf s us) wn
      have at_ : ∀ {c : Int}, c ∈ pickW ts (endOf s us) wn → c ∈ wn ∧ ∃ t, ts[c.toNat]? = some t ∧ t.1 = endOf s us := pickW_at
      generalize pickW ts (endOf s us) wn = cs at hl cl at_ ⊢
      refine ⟨_, rfl, Nat.zero_le _, fun e1 he1 => ?_⟩
      have m4 := same_new m3 he1 (o := .lst [])
      have l4 : (L2.upd H3 e1 (.lst [])) D = some (.lst (cs.map V.int)) := by rw [upd_ne (ne_of_none hl he1)]; exact hl
      have e4 : (L2.upd H3 e1 (.lst [])) e1 = some (.lst (([] : List Int).map V.int)) := upd_same
      have q4 : (L2.upd H3 e1 (.lst [])) q = some (.lst (runV rs)) := by rw [upd_ne (ne_of_none q3 he1)]; exact q3
      generalize L2.upd H3 e1 (.lst []) = H4 at m4 l4 e4 q4 ⊢
      refine ⟨_, _, .lst (SqL.of l4) (dp_ints _), .lst (SqL.of e4) (dp_ints _), ints_shaped _, ints_shaped _, _, rfl, ?_⟩
      rw [eqv_intsL]
      by_cases emp : cs = []
      · rw [decide_eq_true emp]
        exact iteF ⟨rs, us, _, _, _, rfl, m4, q4, ok, by omega, inw⟩
      · have pos : 0 < cs.length := List.length_pos_iff.mpr emp
        rw [decide_eq_false emp]
        refine iteT ?_
        refine ⟨_, rfl, .inl ⟨rfl, _, SqL.of q4⟩, _, rfl, _, rfl, _, rfl, sa, ns, 3 + j, three_more _ _, sqL_keep hS fun o e => m4 _ _ e, fun st H5 m5 f5 s5 => ?_⟩
        have l5 := m5 _ _ l4
        have q5 := m5 _ _ q4
        have st0 : H st = none := m4.free f5
        refine ⟨_, rfl, D, _, rfl, .inl (SqL.of l5), st, _, rfl, s5, by rw [List.length_map]; omega, by rw [List.length_map]; omega, fun r H6 r0 r1 b6 s6 => ?_⟩
        rw [List.length_map] at r1
        obtain ⟨m, rfl⟩ : ∃ m : Nat, r = (m : Int) := ⟨r.toNat, by omega⟩
        obtain ⟨c, hc⟩ : ∃ c, cs[m]? = some c := ⟨_, List.getElem?_eq_getElem (by omega)⟩
        obtain ⟨cw, t, ht, lk⟩ := at_ (List.mem_of_getElem? hc)
        obtain ⟨c0, c1⟩ := wok c cw
        obtain ⟨cn, rfl⟩ : ∃ cn : Nat, c = (cn : Int) := ⟨c.toNat, by omega⟩
        rw [Int.toNat_natCast] at ht
        have l6 := b6 _ _ l5 (ne_of_none l4 f5)
        have q6 := b6 _ _ q5 (ne_of_none q4 f5)
        have m6 := but_same (m4.trans m5) b6 st0
        refine ⟨D, _, _, .int (cn : Int), rfl, rfl, SqL.of l6, atI_nat (by rw [List.getElem?_map, hc]; rfl), ?_⟩
        refine ⟨q, _, _, rfl, rfl, q6, by rw [run_len]; exact small1000 (by omega), ?_⟩
        have m7 := same_put m6 hq (o := .lst (runV rs ++ [.int (cn : Int)]))
        have q7 : (L2.upd H6 q (.lst (runV rs ++ [.int (cn : Int)]))) q = some (.lst (runV rs ++ [.int (cn : Int)])) := upd_same
        generalize L2.upd H6 q (.lst (runV rs ++ [.int (cn : Int)])) = H7 at m7 q7 ⊢
        obtain ⟨qa, ha, hqa⟩ := la.at_ ht
        refine ⟨_, rfl, _, rfl, _, rfl, q, _, _, .int (cn : Int), rfl, rfl, SqL.of q7, atI_last _ _, pa, _, _, .ref qa, rfl, rfl, SqL.of (m7 _ _ hp), atI_nat (by rw [List.getElem?_map, ha]; rfl), qa, _, _, .int t.2.2, rfl, rfl, SqT.of (m7 _ _ hqa), rfl, ?_⟩
        refine ⟨rs ++ [cn], us ++ [t], some (.int (3 + (j : Int))), some (.ref D), _, by rw [endOf_snoc]; rfl, m7, by rw [q7]; unfold runV; rw [List.map_append]; rfl, ok.snoc ht lk, by rw [List.length_append]; show rs.length + 1 ≤ j + 1; omega, fun n hn => ?_⟩
        rcases List.mem_append.mp hn with z | z
        · exact inw n z
        · rw [List.mem_singleton.mp z]; exact cw
    · rintro σ' H2 ⟨rs, us, v6, v7, v8, rfl, m2, q2, ok, le, inw⟩
      refine ⟨_, rfl, q, _, rfl, .inl ⟨SqL.of q2, fun r hr2 => ?_⟩⟩
      exact k r rs us _ (same_new m2 hr2) (m2.free hr2) upd_same ok (by omega) inw
theorem cl_wrun (T : Bt mg) (c_law_stream : Cl P w K mg base 1 "_law_stream" (spStream K) []) (c_law_draw : Cl P w K mg base 1 "_law_draw" spDraw []) (a : At K mg "_law_wanted_run" s_law_wanted_run) : Cl P w K mg base 2 "_law_wanted_run" (spWRun K) [] := a.cal (ps := ["_law_script", "_law_steps_here", "_law_wanted", "_law_start"]) (fun _ _ F => ok_wrun T c_law_stream c_law_draw F) (fun _ _ _ _ _ _ us hl => match us, hl with | [_, _, _, _], _ => rfl)
end
end Lw

namespace Lw
open PySem PySem.Spec PyProof.Rows L2 Txs
open C8 (pe_gc)
/-! ### a row that is spoilt: slots 0 _law_stream_here, 1 _law_sights, 2 _law_names_here, 3 _law_kind, 4 _law_at, 5 _law_things -/
theorem cut_to {xs : List V} (k : Nat) : cutV xs none (some (k : Int)) = xs.take k := by
  unfold cutV
  rw [HT.sIx_none, HT.sIx_nat, List.drop_zero, Nat.sub_zero]
  by_cases h : k ≤ xs.length
  · rw [Nat.min_eq_left h]
  · rw [Nat.min_eq_right (by omega), List.take_length, List.take_of_length_le (by omega)]
theorem cut_from {xs : List V} (k : Nat) : cutV xs (some (k : Int)) none = xs.drop k := by
  unfold cutV
  rw [HT.sIx_none, HT.sIx_nat]
  by_cases h : k ≤ xs.length
  · rw [Nat.min_eq_left h]
    exact List.take_of_length_le (by rw [List.length_drop]; omega)
  · rw [Nat.min_eq_right (by omega), List.drop_length, List.drop_of_length_le (by omega), List.take_nil]
theorem mk13 (x : PySem.Str) (v : V) : mergeK [] [((.inr x : Key), v)] = [((.inr x : Key), v)] := rfl
/-- what is asked with in the end: a list of known things, or what is no row -/
inductive Spl (K : PySem.W.Frag) (C : Addr) (H : Hp) : V → Prop
  | row {a : Addr} {xs : List V} (h : H a = some (.lst xs)) (ob : ∀ x ∈ xs, Ob C H x) (few : xs.length ≤ 61) : Spl K C H (.ref a)
  | out {v : V} {t : Value} (ty : TyX K H v t) (no : PySem.W.kitAny K t rowsV = some false) (nl : PySem.W.kitOne K t (.type "list") = some false) : Spl K C H v
theorem Spl.same {K : PySem.W.Frag} {C : Addr} {H H' : Hp} {v : V} (h : Spl K C H v) (k : Same H H') : Spl K C H' v := by
  cases h with
  | row h ob few => exact .row (k _ _ h) (fun x hx => (ob x hx).same k) few
  | out ty no nl => exact .out (tyx_keep ty k) no nl
theorem Spl.of {K : PySem.W.Frag} {C : Addr} {H : Hp} {v : V} (bi : Bi K C) (cl : Cls K C) (h : Ob C H v) (no : ∀ a xs, v = .ref a → H a ≠ some (.lst xs) ∧ H a ≠ some (.tup xs)) : Spl K C H v := by
  cases h with
  | non => exact .out (.base .non) (no_row (by decide +kernel) (by decide +kernel)) (kit_ty (by decide +kernel))
  | bl b => exact .out (.base (.bl b)) (no_row (by decide +kernel) (by decide +kernel)) (kit_ty (by decide +kernel))
  | int i => exact .out (.base (.int i)) (no_row (by decide +kernel) (by decide +kernel)) (kit_ty (by decide +kernel))
  | str z h => exact .out (.base (.str z)) (no_row (by decide +kernel) (by decide +kernel)) (kit_ty (by decide +kernel))
  | lst h => exact absurd h (no _ _ rfl).1
  | tup h => exact absurd h (no _ _ rfl).2
  | dic h nd => exact .out (.base (.dK h)) (no_row (by decide +kernel) (by decide +kernel)) (kit_ty (by decide +kernel))
  | vw i => exact .out (bi.ty cl i.ins) (own_row bi) (own_kit bi (by decide) (by decide +kernel))
def spSpoilt (K : PySem.W.Frag) (C : Addr) : Sp := fun vs H Q _ => ∃ (a sa na : Addr) (ss ws : List PySem.Str), vs = [.ref a, .ref sa, .ref na] ∧ Stm H a ∧ a ≠ sa ∧ a ≠ na ∧ H sa = some (.lst (ss.map V.str)) ∧ H na = some (.lst (ws.map V.str)) ∧ ss.length ≤ 60 ∧ 0 < ws.length ∧ ws.length ≤ 20 ∧ (∀ x ∈ ss, Nm x) ∧ (∀ x ∈ ws, Nm x) ∧
  ∀ v H', But a H H' → Stm H' a → Spl K C H' v → Q v H'
section
variable {P : Program} {w : World} {K : PySem.W.Frag} {mg : PySem.Str → Option Value} {base : Heap} {C cd : Addr}
theorem ok_spoilt (T : Bt mg) (bi : Bi K C) (cl : Cls K C) (c_law_draw : Cl P w K mg base 1 "_law_draw" spDraw []) (k_View0 : Mr P w K mg base 3 "View" C (spView K C) [.non, .ref cd]) (hcd : ∀ H : Hp, RowAt K H cd []) {f : Addr} {fd : FuncData} (F : FunD K "_law_spoilt" "_law_spoilt" (defArgs s_law_spoilt) (defBody s_law_spoilt) (defScope s_law_spoilt) [] [] f fd) : FnOk P w K mg base CX0 5 f fd ["_law_stream_here", "_law_sights", "_law_names_here"] (spSpoilt K C) := by
  refine F.ok sc_law_spoilt (fun vs H Q E h => ?_) (fun cdv A0 outer s0 H vs Q E hr h => ?_)
  · obtain ⟨a, sa, na, ss, ws, rfl, _⟩ := h
    rfl
  · obtain ⟨a, sa, na, ss, ws, rfl, hS, nas, nan, hs, hn, s60, w0, w20, okS, okW, k⟩ := h
    refine ⟨_, PSs.nox (pss_cons (ps_set (i := 3) sc_law_spoilt.nd rfl (Or.inl rfl) (pe_cl c_law_draw hr (by decide) rfl (pa_cons (pv 0) (pa_cons pe_int pa_nil)))) (pss_cons (ps_set (i := 4) sc_law_spoilt.nd rfl (Or.inl rfl) (pe_cl c_law_draw hr (by decide) rfl (pa_cons (pv 0) (pa_cons (pe_op op_add (pe_callB call_len_seq (by rfl) T.b_len PySem.boot_len (pa_cons (pv 1) pa_nil)) pe_int) pa_nil)))) (pss_cons (ps_set (i := 5) sc_law_spoilt.nd rfl (Or.inl rfl) (pe_lst (pa_cons pe_non (pa_cons pe_bl (pa_cons pe_int (pa_cons pe_str (pa_cons pe_str (pa_cons (pe_mr0 k_View0 hr (by decide) rfl) (pa_cons (pe_tup (pa_cons pe_str pa_nil)) (pa_cons (pe_op Itms.op_mulS pe_str pe_int) pa_nil)))))))))) (pss_cons (ps_if (pt_cmpR op_eq (pv 3) pe_int (nomark _)) (pss_one (ps_ret (pe_op op_cat (pe_op op_cat (pe_slice sl_list (pv 1) po_none (po_some (pv 4))) (pe_lst (pa_cons (pe_ix ix_list (pv 2) (pe_cl c_law_draw hr (by decide) rfl (pa_cons (pv 0) (pa_cons (pe_callB call_len_seq (by rfl) T.b_len PySem.boot_len (pa_cons (pv 2) pa_nil)) pa_nil))) (fun _ _ => rfl)) pa_nil))) (pe_slice sl_list (pv 1) (po_some (pv 4)) po_none)))) pss_nil) (pss_cons (ps_if (pt_cmpR op_eq (pv 3) pe_int (nomark _)) (pss_one (ps_ret (pe_op op_cat (pe_op op_cat (pe_slice sl_list (pv 1) po_none (po_some (pv 4))) (pe_lst (pa_cons (pe_ix ix_list (pv 5) (pe_cl c_law_draw hr (by decide) rfl (pa_cons (pv 0) (pa_cons pe_int pa_nil))) (fun _ _ => rfl)) pa_nil))) (pe_slice sl_list (pv 1) (po_some (pv 4)) po_none)))) pss_nil) (pss_cons (ps_if (pt_cmpR op_eq (pv 3) pe_int (nomark _)) (pss_one (ps_ret (pe_ix ix_list (pe_lst (pa_cons pe_non (pa_cons pe_str (pa_cons pe_int (pa_cons pe_dnewK (pa_cons pe_str (pa_cons (pe_mr0 k_View0 hr (by decide) rfl) (pa_cons pe_bl (pa_cons (pe_disp (pps_cons pe_str pe_str pps_nil) rfl rfl (fun z => nomatch z) (by decide)) pa_nil))))))))) (pe_cl c_law_draw hr (by decide) rfl (pa_cons (pv 0) (pa_cons pe_int pa_nil))) (fun _ _ => rfl)))) pss_nil) (pss_one (ps_ret (pv 1))))))))), ?_⟩
    refine ⟨_, rfl, a, 6, rfl, hS, by decide, by decide, fun kd H1 k0 k6 b1 s1 => ?_⟩
    have hs1 := b1 _ _ hs nas.symm
    refine ⟨_, rfl, _, rfl, sa, _, rfl, .inl (SqL.of hs1), _, _, rfl, rfl, a, ((ss.map V.str).length : Int) + 1, rfl, s1, by rw [List.length_map]; omega, by rw [List.length_map]; omega, fun at_ H2 a0 a1 b2 s2 => ?_⟩
    rw [List.length_map] at a1
    obtain ⟨n, rfl⟩ : ∃ n : Nat, at_ = (n : Int) := ⟨at_.toNat, by omega⟩
    have b02 := b1.trans b2
    have hs2 := b02 _ _ hs nas.symm
    have hn2 := b02 _ _ hn nan.symm
    -- the eight things
    intro x dx nx ndx nex
    have mx : Same H2 (L2.upd (L2.upd H2 dx (.own x)) x (.ins C dx [])) := same_new (same_new (Same.refl _) ndx) (by rw [upd_ne nex.symm]; exact nx)
    refine ⟨x, dx, .non, cd, [], [], rfl, upd_same, .inl ⟨rfl, rfl⟩, by simp, fun e he => absurd he List.not_mem_nil, by decide, hcd _, fun h hh => absurd hh List.not_mem_nil, by decide, fun B e H3 eB edx fr bu iv es' eh => ⟨rfl, ?_⟩⟩
    subst eB
    have m3 : Same H2 H3 := fun b o e => bu b o (mx b o e) (ne_of_none e nx)
    refine ⟨(by show 1 ≤ sizeLine; decide), fun p1 h1 => ?_⟩
    have m4 := same_new m3 h1 (o := .tup [.str "a"])
    have e4 : (L2.upd H3 p1 (.tup [.str "a"])) p1 = some (.tup [.str "a"]) := upd_same
    have i4 := iv.same (same_new (Same.refl _) h1 (o := .tup [.str "a"]))
    generalize L2.upd H3 p1 (.tup [.str "a"]) = H4 at m4 e4 i4 ⊢
    refine ⟨_, _, rfl, rfl, ⟨by decide, fun _ _ => by decide, fun _ _ => by decide +kernel⟩, (by show 8 ≤ sizeLine; decide), fun l hl => ?_⟩
    obtain ⟨its, hits⟩ : ∃ its : List V, its = [.non, .bl true, .int 7, .str "", .str "Q", .ref B.p, .ref p1, .str (Txt.mul "zq" 6)] := ⟨_, rfl⟩
    have few : its.length = 8 := by rw [hits]; rfl
    rw [show ([.non, .bl true, .int 7, .str "", .str "Q", .ref B.p, .ref p1, .str (Txt.mul "zq" 6)] : List V) = its from hits.symm]
    have obs : ∀ {H' : Hp}, H' p1 = some (.tup [.str "a"]) → IsVw C H' B e → ∀ v ∈ its, Ob C H' v := fun {H'} q1 q2 v hv => by
      rw [hits] at hv
      simp only [List.mem_cons, List.not_mem_nil, or_false] at hv
      rcases hv with rfl | rfl | rfl | rfl | rfl | rfl | rfl | rfl
      · exact .non
      · exact .bl _
      · exact .int _
      · exact .str _ (by decide +kernel)
      · exact .str _ (by decide +kernel)
      · exact .vw q2
      · exact .tup q1
      · exact .str _ (by decide +kernel)
    have m5 := same_new m4 hl (o := .lst its)
    have e5 : (L2.upd H4 l (.lst its)) l = some (.lst its) := upd_same
    have t5 : (L2.upd H4 l (.lst its)) p1 = some (.tup [.str "a"]) := by rw [upd_ne (ne_of_none e4 hl)]; exact e4
    have i5 := i4.same (same_new (Same.refl _) hl (o := .lst its))
    generalize L2.upd H4 l (.lst its) = H5 at m5 e5 t5 i5 ⊢
    have s5 := s2.keep m5
    have hs5 := m5 _ _ hs2
    have hn5 := m5 _ _ hn2
    have b05 : But a H H5 := b02.trans (But.of m5)
    have fB : H2 B.p = none := nx
    have kx : ∀ {p : Addr}, (L2.upd (L2.upd H2 dx (.own B.p)) B.p (.ins C dx [])) p = none → H2 p = none := fun {p} n => mx.free n
    have g1 : H2 B.l1 = none := kx (fr _ (by simp [VwAt.lists]))
    have g2 : H2 B.l2 = none := kx (fr _ (by simp [VwAt.lists]))
    have np1 : p1 ≠ a := stm_ne s2 (m3.free h1)
    have nl : l ≠ a := stm_ne s2 (m4.free hl)
    -- a thing put in
    have put : ∀ {H6 : Hp} {c1 c2 q : Addr} {y : V}, But a H5 H6 → Stm H6 a → Ob C H6 y → H6 q = some (.lst ((ss.map V.str).take n ++ [y] ++ (ss.map V.str).drop n)) → Q (.ref q) H6 := fun {H6 c1 c2 q y} b6 s6 oy hq => by
      refine k _ _ (b05.trans b6) s6 (.row hq (fun z hz => ?_) ?_)
      · rcases List.mem_append.mp hz with hz | hz
        · rcases List.mem_append.mp hz with hz | hz
          · obtain ⟨u, hu, rfl⟩ := List.mem_map.mp (List.mem_of_mem_take hz)
            exact ob_nm (okS u hu)
          · rw [List.mem_singleton.mp hz]; exact oy
        · obtain ⟨u, hu, rfl⟩ := List.mem_map.mp (List.mem_of_mem_drop hz)
          exact ob_nm (okS u hu)
      · simp only [List.length_append, List.length_take, List.length_drop, List.length_map, List.length_singleton]
        omega
    have room1 : (List.take n (ss.map V.str)).length ≤ 60 := by rw [List.length_take, List.length_map]; omega
    have room2 : (List.drop n (ss.map V.str)).length ≤ 60 := by rw [List.length_drop, List.length_map]; omega
    refine ⟨_, rfl, rfl, _, rfl, ite2 (fun _ => ?_) (fun _ => ?_)⟩
    · -- another name put in
      refine ⟨_, rfl, _, rfl, (n : Int), rfl, sa, _, rfl, SqL.of hs5, fun c1 hc1 => ?_⟩
      rw [cut_to]
      have m6 := same_new (Same.refl H5) hc1 (o := .lst ((ss.map V.str).take n))
      have c6 : (L2.upd H5 c1 (.lst ((ss.map V.str).take n))) c1 = some (.lst ((ss.map V.str).take n)) := upd_same
      have s6 := s5.new hc1 (o := .lst ((ss.map V.str).take n))
      have nc1 : c1 ≠ a := stm_ne s5 hc1
      generalize L2.upd H5 c1 (.lst ((ss.map V.str).take n)) = H6 at m6 c6 s6 ⊢
      refine ⟨_, rfl, _, rfl, _, rfl, na, _, rfl, .inl (SqL.of (m6 _ _ hn5)), a, _, rfl, s6, by rw [List.length_map]; omega, by rw [List.length_map]; omega, fun r H7 r0 r1 b7 s7 => ?_⟩
      rw [List.length_map] at r1
      obtain ⟨m, rfl⟩ : ∃ m : Nat, r = (m : Int) := ⟨r.toNat, by omega⟩
      obtain ⟨y, hy⟩ : ∃ y, ws[m]? = some y := ⟨_, List.getElem?_eq_getElem (by omega)⟩
      have hn7 := b7 _ _ (m6 _ _ hn5) nan.symm
      have c7 := b7 _ _ c6 nc1
      refine ⟨na, _, _, .str y, rfl, rfl, SqL.of hn7, atI_nat (by rw [List.getElem?_map, hy]; rfl), (by show 1 ≤ sizeLine; decide), fun d hd => ?_⟩
      have b8 : But a H5 (L2.upd H7 d (.lst [.str y])) := ((But.of m6).trans b7).new hd
      have d8 : (L2.upd H7 d (.lst [.str y])) d = some (.lst [.str y]) := upd_same
      have c8 : (L2.upd H7 d (.lst [.str y])) c1 = some (.lst ((ss.map V.str).take n)) := by rw [upd_ne (ne_of_none c7 hd)]; exact c7
      have s8 := s7.new hd (o := .lst [.str y])
      generalize L2.upd H7 d (.lst [.str y]) = H8 at b8 d8 c8 s8 ⊢
      refine ⟨c1, d, _, _, rfl, rfl, c8, d8, by show _ + 1 ≤ sizeLine; exact Nat.le_trans (show _ ≤ 61 by omega) (by decide), fun p hp => ?_⟩
      have b9 := b8.new hp (o := .lst ((ss.map V.str).take n ++ [.str y]))
      have p9 : (L2.upd H8 p (.lst ((ss.map V.str).take n ++ [.str y]))) p = some (.lst ((ss.map V.str).take n ++ [.str y])) := upd_same
      have s9 := s8.new hp (o := .lst ((ss.map V.str).take n ++ [.str y]))
      generalize L2.upd H8 p (.lst ((ss.map V.str).take n ++ [.str y])) = H9 at b9 p9 s9 ⊢
      refine ⟨_, rfl, _, rfl, (n : Int), rfl, sa, _, rfl, SqL.of (b9 _ _ hs5 nas.symm), fun c2 hc2 => ?_⟩
      rw [cut_from]
      have b10 := b9.new hc2 (o := .lst ((ss.map V.str).drop n))
      have c10 : (L2.upd H9 c2 (.lst ((ss.map V.str).drop n))) c2 = some (.lst ((ss.map V.str).drop n)) := upd_same
      have p10 : (L2.upd H9 c2 (.lst ((ss.map V.str).drop n))) p = some (.lst ((ss.map V.str).take n ++ [.str y])) := by rw [upd_ne (ne_of_none p9 hc2)]; exact p9
      have s10 := s9.new hc2 (o := .lst ((ss.map V.str).drop n))
      generalize L2.upd H9 c2 (.lst ((ss.map V.str).drop n)) = H10 at b10 c10 p10 s10 ⊢
      refine ⟨p, c2, _, _, rfl, rfl, p10, c10, by rw [List.length_append]; show _ + 1 + _ ≤ sizeLine; exact Nat.le_trans (show _ ≤ 121 by omega) (by decide), fun q hq => ?_⟩
      exact put (c1 := c1) (c2 := c2) (y := .str y) (b10.new hq) (s10.new hq) (ob_nm (okW y (List.mem_of_getElem? hy))) upd_same
    refine ⟨_, rfl, rfl, _, rfl, ite2 (fun _ => ?_) (fun _ => ?_)⟩
    · -- a thing put in
      refine ⟨_, rfl, _, rfl, (n : Int), rfl, sa, _, rfl, SqL.of hs5, fun c1 hc1 => ?_⟩
      rw [cut_to]
      have m6 := same_new (Same.refl H5) hc1 (o := .lst ((ss.map V.str).take n))
      have c6 : (L2.upd H5 c1 (.lst ((ss.map V.str).take n))) c1 = some (.lst ((ss.map V.str).take n)) := upd_same
      have s6 := s5.new hc1 (o := .lst ((ss.map V.str).take n))
      have nc1 : c1 ≠ a := stm_ne s5 hc1
      generalize L2.upd H5 c1 (.lst ((ss.map V.str).take n)) = H6 at m6 c6 s6 ⊢
      refine ⟨_, rfl, _, rfl, a, 8, rfl, s6, by decide, by decide, fun r H7 r0 r1 b7 s7 => ?_⟩
      obtain ⟨m, rfl⟩ : ∃ m : Nat, r = (m : Int) := ⟨r.toNat, by omega⟩
      have hm : m < its.length := by omega
      have l7 := b7 _ _ (m6 _ _ e5) nl
      have c7 := b7 _ _ c6 nc1
      refine ⟨l, _, _, its[m], rfl, rfl, SqL.of l7, atI_nat (List.getElem?_eq_getElem hm), (by show 1 ≤ sizeLine; decide), fun d hd => ?_⟩
      generalize hy : its[m] = y
      have ym : y ∈ its := by rw [← hy]; exact List.getElem_mem hm
      have b8 : But a H5 (L2.upd H7 d (.lst [y])) := ((But.of m6).trans b7).new hd
      have d8 : (L2.upd H7 d (.lst [y])) d = some (.lst [y]) := upd_same
      have c8 : (L2.upd H7 d (.lst [y])) c1 = some (.lst ((ss.map V.str).take n)) := by rw [upd_ne (ne_of_none c7 hd)]; exact c7
      have s8 := s7.new hd (o := .lst [y])
      generalize L2.upd H7 d (.lst [y]) = H8 at b8 d8 c8 s8 ⊢
      refine ⟨c1, d, _, _, rfl, rfl, c8, d8, by show _ + 1 ≤ sizeLine; exact Nat.le_trans (show _ ≤ 61 by omega) (by decide), fun p hp => ?_⟩
      have b9 := b8.new hp (o := .lst ((ss.map V.str).take n ++ [y]))
      have p9 : (L2.upd H8 p (.lst ((ss.map V.str).take n ++ [y]))) p = some (.lst ((ss.map V.str).take n ++ [y])) := upd_same
      have s9 := s8.new hp (o := .lst ((ss.map V.str).take n ++ [y]))
      generalize L2.upd H8 p (.lst ((ss.map V.str).take n ++ [y])) = H9 at b9 p9 s9 ⊢
      refine ⟨_, rfl, _, rfl, (n : Int), rfl, sa, _, rfl, SqL.of (b9 _ _ hs5 nas.symm), fun c2 hc2 => ?_⟩
      rw [cut_from]
      have b10 := b9.new hc2 (o := .lst ((ss.map V.str).drop n))
      have c10 : (L2.upd H9 c2 (.lst ((ss.map V.str).drop n))) c2 = some (.lst ((ss.map V.str).drop n)) := upd_same
      have p10 : (L2.upd H9 c2 (.lst ((ss.map V.str).drop n))) p = some (.lst ((ss.map V.str).take n ++ [y])) := by rw [upd_ne (ne_of_none p9 hc2)]; exact p9
      have s10 := s9.new hc2 (o := .lst ((ss.map V.str).drop n))
      generalize L2.upd H9 c2 (.lst ((ss.map V.str).drop n)) = H10 at b10 c10 p10 s10 ⊢
      refine ⟨p, c2, _, _, rfl, rfl, p10, c10, by rw [List.length_append]; show _ + 1 + _ ≤ sizeLine; exact Nat.le_trans (show _ ≤ 121 by omega) (by decide), fun q hq => ?_⟩
      have b11 := b10.new hq (o := .lst ((ss.map V.str).take n ++ [y] ++ (ss.map V.str).drop n))
      have i11 : IsVw C (L2.upd H10 q (.lst ((ss.map V.str).take n ++ [y] ++ (ss.map V.str).drop n))) B e := i5.but b11 (stm_ne s2 fB) (stm_ne s2 g1) (stm_ne s2 g2)
      exact put (c1 := c1) (c2 := c2) (y := y) b11 (s10.new hq) (obs (b11 _ _ t5 np1) i11 y ym) upd_same
    refine ⟨_, rfl, rfl, _, rfl, ite2 (fun _ => ?_) (fun _ => ?_)⟩
    · -- what is no row
      intro d1 hd1
      have m6 := same_new (Same.refl H5) hd1 (o := .dK [])
      have d6 : (L2.upd H5 d1 (.dK [])) d1 = some (.dK []) := upd_same
      have s6 := s5.new hd1 (o := .dK [])
      have nd1 : d1 ≠ a := stm_ne s5 hd1
      generalize L2.upd H5 d1 (.dK []) = H6 at m6 d6 s6 ⊢
      intro y dy ny ndy ney
      have my : Same H6 (L2.upd (L2.upd H6 dy (.own y)) y (.ins C dy [])) := same_new (same_new (Same.refl _) ndy) (by rw [upd_ne ney.symm]; exact ny)
      refine ⟨y, dy, .non, cd, [], [], rfl, upd_same, .inl ⟨rfl, rfl⟩, by simp, fun e he => absurd he List.not_mem_nil, by decide, hcd _, fun h hh => absurd hh List.not_mem_nil, by decide, fun B2 e2 H7 eB2 edx2 fr2 bu2 iv2 es2 eh2 => ⟨rfl, ?_⟩⟩
      subst eB2
      have m7 : Same H6 H7 := fun b o e => bu2 b o (my b o e) (ne_of_none e ny)
      intro d2 hd2
      refine ⟨upd_same, [(.inr "a", .str "b")], rfl, by decide, ?_⟩
      rw [mk13]
      have m8 : Same H7 (L2.upd (L2.upd H7 d2 (.dK [])) d2 (.dK [(.inr "a", .str "b")])) := fun b o e => by rw [upd_ne (ne_of_none e hd2), upd_ne (ne_of_none e hd2)]; exact e
      have e8 : (L2.upd (L2.upd H7 d2 (.dK [])) d2 (.dK [(.inr "a", .str "b")])) d2 = some (.dK [(.inr "a", .str "b")]) := upd_same
      have s8 := (s6.keep m7).keep m8
      have nd2 : d2 ≠ a := stm_ne (s6.keep m7) hd2
      have i8 := iv2.same m8
      have d8 := m8 _ _ (m7 _ _ d6)
      have m58 := m6.trans (m7.trans m8)
      generalize L2.upd (L2.upd H7 d2 (.dK [])) d2 (.dK [(.inr "a", .str "b")]) = H8 at m8 e8 s8 i8 d8 m58 ⊢
      refine ⟨(by show 8 ≤ sizeLine; decide), fun l2 hl2 => ?_⟩
      obtain ⟨jts, hjts⟩ : ∃ jts : List V, jts = [.non, .str "ab", .int 5, .ref d1, .str "", .ref B2.p, .bl true, .ref d2] := ⟨_, rfl⟩
      have few2 : jts.length = 8 := by rw [hjts]; rfl
      rw [show ([.non, .str "ab", .int 5, .ref d1, .str "", .ref B2.p, .bl true, .ref d2] : List V) = jts from hjts.symm]
      have m9 := same_new (Same.refl H8) hl2 (o := .lst jts)
      have e9 : (L2.upd H8 l2 (.lst jts)) l2 = some (.lst jts) := upd_same
      have s9 := s8.new hl2 (o := .lst jts)
      have nl2 : l2 ≠ a := stm_ne s8 hl2
      generalize L2.upd H8 l2 (.lst jts) = H9 at m9 e9 s9 ⊢
      refine ⟨_, rfl, a, 8, rfl, s9, by decide, by decide, fun r H10 r0 r1 b10 s10 => ?_⟩
      obtain ⟨m, rfl⟩ : ∃ m : Nat, r = (m : Int) := ⟨r.toNat, by omega⟩
      have hm : m < jts.length := by omega
      refine ⟨l2, _, _, jts[m], rfl, rfl, SqL.of (b10 _ _ e9 nl2), atI_nat (List.getElem?_eq_getElem hm), ?_⟩
      generalize hy : jts[m] = z
      have zm : z ∈ jts := by rw [← hy]; exact List.getElem_mem hm
      have q1 := b10 _ _ (m9 _ _ d8) nd1
      have q2 := b10 _ _ (m9 _ _ e8) nd2
      have my0 : ∀ {p : Addr}, (L2.upd (L2.upd H6 dy (.own B2.p)) B2.p (.ins C dy [])) p = none → H6 p = none := fun {p} n => my.free n
      have q3 : IsVw C H10 B2 e2 := (i8.same m9).but b10 (stm_ne s6 ny) (stm_ne s6 (my0 (fr2 _ (by simp [VwAt.lists])))) (stm_ne s6 (my0 (fr2 _ (by simp [VwAt.lists]))))
      refine k _ _ (b05.trans ((But.of (m58.trans m9)).trans b10)) s10 (Spl.of bi cl ?_ ?_)
      · rw [hjts] at zm
        simp only [List.mem_cons, List.not_mem_nil, or_false] at zm
        rcases zm with rfl | rfl | rfl | rfl | rfl | rfl | rfl | rfl
        · exact .non
        · exact .str _ (by decide +kernel)
        · exact .int _
        · exact .dic q1 (by simp)
        · exact .str _ (by decide +kernel)
        · exact .vw q3
        · exact .bl _
        · exact .dic q2 (by simp)
      · intro p xs ez
        subst ez
        rw [hjts] at zm
        simp only [List.mem_cons, List.not_mem_nil, or_false, reduceCtorEq, false_or, V.ref.injEq] at zm
        rcases zm with rfl | rfl | rfl
        · rw [q1]; exact ⟨(fun z => nomatch z), (fun z => nomatch z)⟩
        · rw [q3.ins]; exact ⟨(fun z => nomatch z), (fun z => nomatch z)⟩
        · rw [q2]; exact ⟨(fun z => nomatch z), (fun z => nomatch z)⟩
    · refine ⟨_, rfl, k _ _ b05 s5 (.row hs5 (fun z hz => ?_) (by rw [List.length_map]; omega))⟩
      obtain ⟨u, hu, rfl⟩ := List.mem_map.mp hz
      exact ob_nm (okS u hu)
theorem cl_spoilt (T : Bt mg) (bi : Bi K C) (cl : Cls K C) (c_law_draw : Cl P w K mg base 1 "_law_draw" spDraw []) (k_View0 : Mr P w K mg base 3 "View" C (spView K C) [.non, .ref cd]) (hcd : ∀ H : Hp, RowAt K H cd []) (a : At K mg "_law_spoilt" s_law_spoilt) : Cl P w K mg base 5 "_law_spoilt" (spSpoilt K C) [] := a.cal (ps := ["_law_stream_here", "_law_sights", "_law_names_here"]) (fun _ _ F => ok_spoilt T bi cl c_law_draw k_View0 hcd F) (fun _ _ _ _ _ _ us hl => match us, hl with | [_, _, _], _ => rfl)
end
end Lw

namespace Lw
open PySem PySem.Spec PyProof.Rows L2 Txs
open C8 (pe_gc)
open Ers (Er Clx)
/-! ### what is due, what is told -/
theorem slL (K : PySem.W.Frag) {X : Cx} (h : X.K = K := by rfl) : SlR X (rSlL K) := h ▸ sl_list
theorem tupI_shaped (ns : List Int) : SeqAt.shaped (.tuple (ns.map PyData.int)) = true := by
  have h := ints_depth ns
  have h2 : PyData.depth (.tuple (ns.map PyData.int)) ≤ 64 := by simp only [PyData.depth]; omega
  show ((PyData.tuple (ns.map PyData.int)).canLay0 && decide ((PyData.tuple (ns.map PyData.int)).depth ≤ 64)) = true
  rw [decide_eq_true h2, Bool.and_true]
  simp only [PyData.canLay0]
  exact ints_lay ns
theorem eqv_tupN (ns : List Int) : PyData.eqv (.tuple (ns.map PyData.int)) (.tuple []) = decide (ns = []) := by
  have := eqv_ints ns []
  simp only [PyData.eqv]
  exact this
/-- what is due stands at q -/
def ResAt (H0 H : Hp) (q : Addr) : Res → Prop
  | .no i => H q = some (.tup [.str "refused", .int i])
  | .is ys => ∃ l, H q = some (.tup [.str "told", .ref l]) ∧ H l = some (.lst (ys.map V.int)) ∧ H0 l = none ∧ ys.length ≤ 100
def AskAt (H0 H : Hp) (q : Addr) : Res → Prop
  | .no i => H q = some (.tup [.str "refused", .int i, .bl true])
  | .is ys => ∃ l, H q = some (.tup [.str "told", .ref l]) ∧ H l = some (.lst (ys.map V.int)) ∧ H0 l = none ∧ ys.length ≤ 100
def spDue13 (K : PySem.W.Frag) : Sp := fun vs H Q _ => ∃ (pa wa ta : Addr) (s0 : Int) (v : V) (o : SOut) (as : List Addr) (ts : List Tr) (wn : List Int) (es : List (PySem.Str × PySem.Str)), vs = [.ref pa, .ref wa, .int s0, .ref ta, v] ∧ H pa = some (.lst (as.map V.ref)) ∧ Laid H as ts ∧ H wa = some (.lst (wn.map V.int)) ∧ (∀ x ∈ wn, 0 ≤ x ∧ x < (ts.length : Int)) ∧ wn.length ≤ 31 ∧
  H ta = some (.dK (sgV es)) ∧ SRow K H v o ∧ ∀ r q H', DueIs es (wantedOf ts wn) s0 o r → Same H H' → H q = none → ResAt H H' q r → Q (.ref q) H'
def spAsk13 (K : PySem.W.Frag) (C CV : Addr) : Sp := fun vs H Q _ => ∃ (A : PlAt) (d : Pl) (B : VwAt) (e : Vw) (v : V) (o : SOut), vs = [.ref A.p, .ref B.p, v] ∧ IsPl C H A d ∧ IsVw CV H B e ∧ (∀ x ∈ d.wanted, 0 ≤ x ∧ x < (d.steps.length : Int)) ∧ SRow K H v o ∧
  ∀ r q H', DueIs e.sights (wantedOf d.steps d.wanted) d.start o r → Same H H' → H q = none → AskAt H H' q r → Q (.ref q) H'
section
variable {P : Program} {w : World} {K : PySem.W.Frag} {mg : PySem.Str → Option Value} {base : Heap} {C CV CS CG : Addr}
theorem ok_due13 (T : Bt mg) (c_law_is_name : Cl P w K mg base 1 "_law_is_name" (spNameM K) []) (c_law_closed : Cl P w K mg base 1 "_law_closed" (spClosed K) []) (c_law_onward : Cl P w K mg base 2 "_law_onward" spOnward []) {f : Addr} {fd : FuncData} (F : FunD K "_law_due" "_law_due" (defArgs s_law_due) (defBody s_law_due) (defScope s_law_due) [] [] f fd) : FnOk P w K mg base CX0 3 f fd ["_law_steps_here", "_law_wanted", "_law_start", "_law_table", "_law_row"] (spDue13 K) := by
  refine F.ok sc_law_due (fun vs H Q E h => ?_) (fun cdv A0 outer s H vs Q E hr h => ?_)
  · obtain ⟨pa, wa, ta, s0, v, o, as, ts, wn, es, rfl, _⟩ := h
    rfl
  · obtain ⟨pa, wa, ta, s0, v, o, as, ts, wn, es, rfl, hpa, la, hwa, wok, w31, hta, row, good⟩ := h
    have hu64 := hu64_of hr
    refine ⟨_, PSs.nox (pss_cons (ps_if (pt_not (pt_val (pe_callB call_isiT (by rfl) T.b_isinstance (by decide +kernel) (pa_cons (pv 4) (pa_cons (pe_tup (pa_cons (pe_bltn (v := .ty "list") (by rfl) T.b_list (by decide +kernel) rfl) (pa_cons (pe_bltn (v := .ty "tuple") (by rfl) T.b_tuple (by decide +kernel) rfl) pa_nil))) pa_nil))))) (pss_one (ps_ret (pe_tup (pa_cons pe_str (pa_cons (pe_un un_neg pe_int) pa_nil))))) pss_nil) (pss_cons (ps_set (i := 5) sc_law_due.nd rfl (Or.inl rfl) (pe_cl c_law_closed hr (by decide) rfl (pa_cons (pv 0) (pa_cons (pv 1) (pa_cons (pv 3) (pa_cons (pe_tup (pa_cons (pv 2) pa_nil)) pa_nil)))))) (pss_cons (ps_for PassesOwn.never rfl (pi_enumS rfl T.b_enumerate (pa_cons (pv 4) pa_nil)) (pg_tup rfl (pgs_cons (pg_name (i := 6) sc_law_due.nd rfl (Or.inl rfl)) (pgs_cons (pg_name (i := 7) sc_law_due.nd rfl (Or.inl rfl)) pgs_nil))) (pss_cons (ps_if (pt_not (pt_val (pe_cl c_law_is_name hr (by decide) rfl (pa_cons (pv 7) pa_nil)))) (pss_one (ps_ret (pe_tup (pa_cons pe_str (pa_cons (pv 6) pa_nil))))) pss_nil) (pss_cons (ps_set (i := 5) sc_law_due.nd rfl (Or.inl rfl) (pe_cl c_law_onward hr (by decide) rfl (pa_cons (pv 0) (pa_cons (pv 1) (pa_cons (pv 3) (pa_cons (pv 5) (pa_cons (pv 7) pa_nil))))))) (pss_one (ps_if (pt_cmpR (op_eqD hu64) (pv 5) (pe_tup pa_nil) (nomark _)) (pss_one (ps_ret (pe_tup (pa_cons pe_str (pa_cons (pv 6) pa_nil))))) pss_nil))))) (pss_one (ps_ret (pe_tup (pa_cons pe_str (pa_cons (pe_callTy call_list_of (by rfl) T.b_list (by decide +kernel) (pa_cons (pv 5) pa_nil)) pa_nil)))))))), ?_⟩
    refine ⟨_, rfl, (by show 2 ≤ sizeLine; decide), fun p hp => ?_⟩
    have m1 := same_new (Same.refl H) hp (o := .tup [.ty "list", .ty "tuple"])
    have e1 : (L2.upd H p (.tup [.ty "list", .ty "tuple"])) p = some (.tup [.ty "list", .ty "tuple"]) := upd_same
    generalize L2.upd H p (.tup [.ty "list", .ty "tuple"]) = H1 at m1 e1 ⊢
    cases row with
    | out ty no =>
      refine ⟨_, p, _, _, _, false, rfl, e1, .cons (.ty _) (.cons (.ty _) .nil), tyx_keep ty m1, no, false, rfl, iteT ?_⟩
      exact ⟨_, rfl, (by show 2 ≤ sizeLine; decide), fun q hq => good (.no (-1)) q _ rfl (same_new m1 hq) (m1.free hq) upd_same⟩
    | @row a xs zs b r few pre ok fin =>
    obtain ⟨ty0, ty, kt⟩ := r.ty
    refine ⟨_, p, _, _, _, true, rfl, e1, .cons (.ty _) (.cons (.ty _) .nil), tyx_keep ty m1, kt, true, rfl, iteF ?_⟩
    refine ⟨_, rfl, _, rfl, _, rfl, _, rfl, (by show 1 ≤ sizeLine; decide), fun z0 hz0 => ?_⟩
    have m2 := same_new m1 hz0 (o := .tup [.int s0])
    have z2 : (L2.upd H1 z0 (.tup [.int s0])) z0 = some (.tup (([s0] : List Int).map V.int)) := upd_same
    generalize L2.upd H1 z0 (.tup [.int s0]) = H2 at m2 z2 ⊢
    refine ⟨pa, wa, ta, z0, as, ts, wn, es, [s0], rfl, m2 _ _ hpa, la.same m2, m2 _ _ hwa, wok, w31, m2 _ _ hta, .inr (SqT.of z2), by simp, (by show 1 ≤ 31; decide), fun ys0 q0 H3 fo m23 q00 hq0 => ?_⟩
    have m3 := m2.trans m23
    have te0 : TheEnds es (wantedOf ts wn) s0 [] ys0 := first_ok fo
    have zx := pre_le pre
    have ul : (wantedOf ts wn).length ≤ 31 := Nat.le_trans (wantedOf_len _ _) w31
    refine ⟨_, rfl, a, rfl, for_enum (K := K) (xs := xs) (r.sq.same m3) (fun i σ H' => ∃ (ys : List Int) (q : Addr) (v6 v7 : Option V), σ = [some (.ref pa), some (.ref wa), some (.int s0), some (.ref ta), some (.ref a), some (.ref q), v6, v7] ∧ Same H3 H' ∧ H' q = some (.tup (ys.map V.int)) ∧
      TheEnds es (wantedOf ts wn) s0 (zs.take i) ys ∧ ys ≠ [] ∧ i ≤ zs.length) ?_ ?_ ?_ ?_⟩
    · exact ⟨ys0, q0, _, _, rfl, Same.refl _, hq0, te0, List.ne_nil_of_mem ((te0.2 s0).2 .start), Nat.zero_le _⟩
    · rintro i σ' H' _ ⟨_, _, _, _, _, sm, _⟩ o e
      exact sm _ _ e
    · rintro i x σ' H4 T2 hx ⟨ys, q, v6, v7, rfl, sm, hq, te, ne, iz⟩ hT
      refine ⟨T2, _, rfl, SqT.of upd_same, rfl, _, _, rfl, _, _, rfl, rfl, ?_⟩
      have m5 : Same H3 (L2.upd H4 T2 (.tup [.int (i : Nat), x])) := same_new sm hT
      have q5 : (L2.upd H4 T2 (.tup [.int (i : Nat), x])) q = some (.tup (ys.map V.int)) := by rw [upd_ne (ne_of_none hq hT)]; exact hq
      generalize L2.upd H4 T2 (.tup [.int (i : Nat), x]) = H5 at m5 q5 ⊢
      have yl := ends_len te
      by_cases il : i < zs.length
      · obtain ⟨z, hz, rfl⟩ := pre_at pre il hx
        have nz := ok z (List.mem_of_getElem? hz)
        refine ⟨_, rfl, .inl ⟨z, rfl, nm_size nz, fun H6 m56 => ?_⟩⟩
        rw [nmB_iff.2 nz]
        refine ⟨true, rfl, iteF ?_⟩
        have m6 := m5.trans m56
        have m06 := m3.trans m6
        refine ⟨_, rfl, _, rfl, _, rfl, _, rfl, _, rfl, pa, wa, ta, q, z, as, ts, wn, es, ys, rfl, m06 _ _ hpa, la.same m06, m06 _ _ hwa, wok, w31, m06 _ _ hta, m56 _ _ q5, by omega, fun zs2 q2 H7 ao m67 q20 hq2 => ?_⟩
        have te2 := after_ok te ao
        rw [← take_at hz] at te2
        have m7 := m6.trans m67
        refine ⟨_, rfl, Nat.zero_le _, fun e he => ?_⟩
        have m8 := same_new m7 he (o := .tup [])
        have q8 : (L2.upd H7 e (.tup [])) q2 = some (.tup (zs2.map V.int)) := by rw [upd_ne (ne_of_none hq2 he)]; exact hq2
        have e8 : (L2.upd H7 e (.tup [])) e = some (.tup []) := upd_same
        generalize L2.upd H7 e (.tup []) = H8 at m8 q8 e8 ⊢
        refine ⟨_, _, .tup (SqT.of q8) (dp_ints _), .tup (SqT.of e8) .nil, tupI_shaped _, tupI_shaped [], _, rfl, ?_⟩
        rw [eqv_tupN]
        by_cases emp : zs2 = []
        · rw [decide_eq_true emp]
          subst emp
          refine iteT ⟨_, rfl, (by show 2 ≤ sizeLine; decide), fun q3 hq3 => good (.no (i : Int)) q3 _ (.inl ⟨i, il, ?_, (fun x r => ?_), rfl⟩) (same_new (m3.trans m8) hq3) ((m3.trans m8).free hq3) upd_same⟩
          · cases ys with
            | nil => exact absurd rfl ne
            | cons y ys => exact ⟨y, (te.2 y).1 List.mem_cons_self⟩
          · have := (te2.2 x).2 r
            cases this
        · rw [decide_eq_false emp]
          exact iteF ⟨zs2, q2, _, _, rfl, m8, q8, te2, emp, il⟩
      · have ie : i = zs.length := by omega
        subst ie
        rw [List.take_length] at te
        rcases fin with ⟨rfl, x2, hx2, nn⟩ | ⟨rfl, xl⟩
        · rw [hx] at hx2
          cases hx2
          have go : ∀ {H6 : Hp}, Same H5 H6 → ∀ q3, H6 q3 = none → Q (.ref q3) (L2.upd H6 q3 (.tup [.str "refused", .int (zs.length : Int)])) := fun {H6} m56 q3 hq3 =>
            good (.no (zs.length : Int)) q3 _ (.inr ⟨ys, te, ne, rfl⟩) (same_new (m3.trans (m5.trans m56)) hq3) ((m3.trans (m5.trans m56)).free hq3) upd_same
          rcases nn with ⟨z, rfl, lz, nz⟩ | ⟨t2, ty2, kt2⟩
          · refine ⟨_, rfl, .inl ⟨z, rfl, lz, fun H6 m56 => ?_⟩⟩
            rw [nz]
            exact ⟨false, rfl, iteT ⟨_, rfl, (by show 2 ≤ sizeLine; decide), go m56⟩⟩
          · exact ⟨_, rfl, .inr ⟨_, t2, rfl, tyx_keep ty2 (m3.trans m5), kt2, fun H6 m56 => ⟨false, rfl, iteT ⟨_, rfl, (by show 2 ≤ sizeLine; decide), go m56⟩⟩⟩⟩
        · have := (List.getElem?_eq_some_iff.mp hx).1
          omega
    · rintro σ' H4 ⟨ys, q, v6, v7, rfl, sm, hq, te, ne, iz⟩
      have xz : xs.length = zs.length := by omega
      rw [xz, List.take_length] at te
      rcases fin with ⟨rfl, x2, hx2, nn⟩ | ⟨rfl, xl⟩
      · have := (List.getElem?_eq_some_iff.mp hx2).1
        omega
      have yl := ends_len te
      have m4 := m3.trans sm
      refine ⟨_, rfl, q, _, rfl, .inr (SqT.of hq), fun l hl => ⟨(by show 2 ≤ sizeLine; decide), fun q3 hq3 => ?_⟩⟩
      have m5 := same_new m4 hl (o := .lst (ys.map V.int))
      exact good (.is ys) q3 _ (.inr ⟨ys, te, ne, rfl⟩) (same_new m5 hq3) (m5.free hq3) ⟨l, upd_same, by rw [upd_ne (ne_of_none upd_same hq3)]; exact upd_same, m4.free hl, by omega⟩
theorem cl_due13 (T : Bt mg) (c_law_is_name : Cl P w K mg base 1 "_law_is_name" (spNameM K) []) (c_law_closed : Cl P w K mg base 1 "_law_closed" (spClosed K) []) (c_law_onward : Cl P w K mg base 2 "_law_onward" spOnward []) (a : At K mg "_law_due" s_law_due) : Cl P w K mg base 3 "_law_due" (spDue13 K) [] := a.cal (ps := ["_law_steps_here", "_law_wanted", "_law_start", "_law_table", "_law_row"]) (fun _ _ F => ok_due13 T c_law_is_name c_law_closed c_law_onward F) (fun _ _ _ _ _ _ us hl => match us, hl with | [_, _, _, _, _], _ => rfl)
theorem cs_isint (T : Bt mg) (a : At K mg "_law_is_integer" s_law_is_integer) : SuC.Clc P w K mg base 1 "_law_is_integer" (spIsInt K) := by
  obtain ⟨f, fd, F, g⟩ := a.ex
  refine ⟨f, fd, ["_law_value"], SuC.FunD.okC F sc_law_is_integer (fun vs H Q E h => ?_) (fun cdv A outer s H vs Q E hr h => ?_), g, F.kp, F.bindsN (fun _ _ _ _ _ _ us hl => match us, hl with | [_], _ => rfl)⟩
  · obtain ⟨x, t, b1, b2, rfl, _⟩ := h
    rfl
  · obtain ⟨x, t, b1, b2, rfl, ty, h1, h2, k⟩ := h
    refine ⟨_, PSs.nox (pss_one (ps_ret (pe_and (pe_callB call_isi (by rfl) T.b_isinstance (by decide +kernel) (pa_cons (pv 0) (pa_cons (pe_bltn (v := .ty "int") (by rfl) T.b_int (by decide +kernel) rfl) pa_nil))) (pe_one (pe_not (pe_callB call_isi (by rfl) T.b_isinstance (by decide +kernel) (pa_cons (pv 0) (pa_cons (pe_bltn (v := .ty "bool") (by rfl) T.b_bool (by decide +kernel) rfl) pa_nil)))))))), ?_⟩
    cases b1 with
    | true => exact ⟨_, rfl, _, _, _, _, true, rfl, .ty _, ty, h1, true, rfl, iteT ⟨_, rfl, _, _, _, _, b2, rfl, .ty _, ty, h2 rfl, b2, rfl, k⟩⟩
    | false => exact ⟨_, rfl, _, _, _, _, false, rfl, .ty _, ty, h1, false, rfl, iteF k⟩
theorem ok_ask13 (T : Bt mg) (e_BadSights : Er P w K mg base "BadSights" CS "at" MkT.small) (i_BadSights : ErI.IsC K CS) (xss : PySem.W.exmOne K (.ref CS) (.ref CS) = some true) (g_GuardError : mg "GuardError" = some (.ref CG)) (ksg : PySem.W.kitOne K (.ref CS) (.ref CG) = some true) (cs_law_is_integer : SuC.Clc P w K mg base 1 "_law_is_integer" (spIsInt K))
    (x_wanted_ends : Clx P w K mg base 5 "wanted_ends" (spWEndsR K C CV CS) []) {f : Addr} {fd : FuncData} (F : FunD K "_law_ask" "_law_ask" (defArgs s_law_ask) (defBody s_law_ask) (defScope s_law_ask) [] [] f fd) : FnOk P w K mg base CX0 6 f fd ["_law_plant", "_law_view_here", "_law_row"] (spAsk13 K C CV) := by
  refine F.ok sc_law_ask (fun vs H Q E h => ?_) (fun cdv A0 outer s0 H vs Q E hr h => ?_)
  · obtain ⟨A, d, B, e, v, o, rfl, _⟩ := h
    rfl
  · obtain ⟨A, d, B, e, v, o, rfl, ip, iv, wok, row, k⟩ := h
    refine ⟨_, PSs.nox (pss_one (TrA.ps_tryA rfl rfl sc_law_ask.nd takes0 (fun W pn xe tk po => (pss_one (ps_ret (pe_tup (pa_cons pe_str (pa_cons (Ers.pe_clx x_wanted_ends hr (by decide) tk rfl (pa_cons (pv 0) (pa_cons (pv 1) (pa_cons (pv 2) pa_nil)))) pa_nil)))))) (TrA.Clas.cons (i := 3) ⟨rfl, by decide, .inl e_BadSights.gl⟩ rfl rfl (fun a oe cls d pn hz hf => (pss_one (ps_ret (pe_tup (pa_cons pe_str (pa_cons (pe_xf e_BadSights.X e_BadSights.no hz hf (pv 3)) (pa_cons (pe_and (SuC.pe_clc cs_law_is_integer (SuC.roomC hr) (by decide) rfl (pa_cons (pe_xf e_BadSights.X e_BadSights.no hz hf (pv 3)) pa_nil)) (pe_one (pe_callB (ErI.call_isX i_BadSights hz hf) (by rfl) T.b_isinstance (by decide +kernel) (pa_cons (pv 3) (pa_cons (pe_gref rfl g_GuardError) pa_nil))))) pa_nil))))))) TrA.Clas.nil))), ?_⟩
    refine ⟨_, rfl, _, rfl, _, rfl, A, d, B, e, v, o, rfl, ip, iv, wok, row, fun ys q H1 due few m1 f1 hq => ?_, fun i due H1 dd m1 hdd => ?_⟩
    · exact ⟨(by show 2 ≤ sizeLine; decide), fun q2 hq2 => k (.is ys) q2 _ due (same_new m1 hq2) (m1.free hq2) ⟨q, upd_same, by rw [upd_ne (ne_of_none hq hq2)]; exact hq, f1, few⟩⟩
    · refine ⟨true, xss, fun _ aa haa => ?_, fun z => nomatch z⟩
      have m2 := same_new m1 hdd (o := .xd [("at", .int i)])
      refine ⟨_, rfl, rfl, rfl, dd, _, .int i, rfl, upd_same, rfl, _, rfl, rfl, rfl, dd, _, .int i, rfl, upd_same, rfl, _, _, true, false, rfl, .base (.int _), kit_ty (by decide +kernel), fun _ => kit_ty (by decide +kernel), true, rfl, iteT ?_⟩
      refine ⟨_, rfl, .ref CG, .ref CG, true, dd, _, rfl, .own _, rfl, rfl, upd_same, ksg, (by show 3 ≤ sizeLine; decide), fun q hq => ?_⟩
      exact k (.no i) q _ due (same_new m2 hq) (m2.free hq) upd_same
theorem cl_ask13 (T : Bt mg) (e_BadSights : Er P w K mg base "BadSights" CS "at" MkT.small) (i_BadSights : ErI.IsC K CS) (xss : PySem.W.exmOne K (.ref CS) (.ref CS) = some true) (g_GuardError : mg "GuardError" = some (.ref CG)) (ksg : PySem.W.kitOne K (.ref CS) (.ref CG) = some true) (cs_law_is_integer : SuC.Clc P w K mg base 1 "_law_is_integer" (spIsInt K))
    (x_wanted_ends : Clx P w K mg base 5 "wanted_ends" (spWEndsR K C CV CS) []) (a : At K mg "_law_ask" s_law_ask) : Cl P w K mg base 6 "_law_ask" (spAsk13 K C CV) [] := a.cal (ps := ["_law_plant", "_law_view_here", "_law_row"]) (fun _ _ F => ok_ask13 T e_BadSights i_BadSights xss g_GuardError ksg cs_law_is_integer x_wanted_ends F) (fun _ _ _ _ _ _ us hl => match us, hl with | [_, _, _], _ => rfl)
end
end Lw

namespace Lw
open PySem PySem.Spec PyProof.Rows L2 Txs
open C8 (pe_gc)
open Ers (Er Clx)
/-! ### the law: slots 0 _law_script, 1 _law_stream_here, 2 _law_states_here, 3 _law_words, 4 _law_steps_here, 5 _law_wanted, 6 _law_barred, 7 _law_spoiler, 8 _law_table, 9 _law_holds, 10 _law_plant, 11 _law_view_here, 12 _law_run, 13 _law_sights, 14 _law_row, 15 _law_parts, 16 _law_part, 17 _law_due_here, 18 _law_told, 19 _law_number, 20 _law_count -/
def spLaw (K : PySem.W.Frag) : Sp := fun vs H Q _ => ∃ (a : Addr) (ns : List Int), vs = [.ref a] ∧ SqL K H a (ns.map V.int) ∧ ∀ H', Q (.bl true) H'
theorem one_more (a : Addr) (n : Nat) : [V.ref a, V.int (1 + (n : Int))] ++ [] = [V.ref a, V.int ((1 + n : Nat) : Int)] := by
  have e : (1 : Int) + (n : Int) = ((1 + n : Nat) : Int) := by omega
  rw [e]
  rfl
theorem made {H : Hp} {x dx : Addr} {o1 o2 : HO} (nx : H x = none) (ndx : H dx = none) (nex : dx ≠ x) : Same H (L2.upd (L2.upd H dx o1) x o2) :=
  same_new (same_new (Same.refl _) ndx) (by rw [upd_ne nex.symm]; exact nx)
theorem words_few {ts : List Tr} {ws ys : List PySem.Str} (h : ∀ t ∈ ts, t.2.1 ∈ ws) (n : ws.length ≤ 12) (w : Words ts ys) : ys.length ≤ 12 :=
  Nat.le_trans (nodup_le w.1.2 fun y hy => by
    obtain ⟨t, ht, rfl⟩ := List.mem_map.mp ((w.2 y).1 hy)
    exact h t ht) n
theorem IsPl.but {C st : Addr} {H H' : Hp} {A : PlAt} {d : Pl} (h : IsPl C H A d) (b : But st H H') (s : Stm H st) (n : ∀ l ∈ A.lists, l ≠ st) : IsPl C H' A d :=
  have n1 := n A.l1 (by simp [PlAt.lists])
  have n2 := n A.l2 (by simp [PlAt.lists])
  have n3 := n A.l3 (by simp [PlAt.lists])
  have n4 := n A.l4 (by simp [PlAt.lists])
  have n5 := n A.l5 (by simp [PlAt.lists])
  ⟨b _ _ h.ins (s.ne h.ins fun _ _ _ z => nomatch z), let ⟨as, e, l⟩ := h.steps; ⟨as, b _ _ e n1, l.but b s⟩, b _ _ h.words n2, b _ _ h.wanted n3, b _ _ h.barred n4, b _ _ h.states n5, h.small⟩
/-- a wanted run has its end among those of its sights -/
theorem run_to {ts : List Tr} {s0 : Int} {ns : List Nat} {us : List Tr} {wn : List Int} (ok : RunOk ts s0 ns us) (inw : ∀ n ∈ ns, (n : Int) ∈ wn) (es : List (PySem.Str × PySem.Str)) : RunTo es (wantedOf ts wn) s0 (seen es us) (endOf s0 us) := by
  have go : ∀ k, k ≤ us.length → RunTo es (wantedOf ts wn) s0 (seen es (us.take k)) (endOf s0 (us.take k)) := fun k => by
    induction k with
    | zero => exact fun _ => by rw [List.take_zero]; exact .start
    | succ k ih =>
      intro hk
      have r := ih (by omega)
      obtain ⟨n, hn⟩ : ∃ n, ns[k]? = some n := ⟨_, List.getElem?_eq_getElem (by rw [ok.len]; omega)⟩
      obtain ⟨t, h1, h2, h3⟩ := ok.at_ k n hn
      have m : t ∈ wantedOf ts wn := mem_wantedOf.2 ⟨(n : Int), inw n (List.mem_of_getElem? hn), by rw [Int.toNat_natCast]; exact h2⟩
      rw [take_at h1, seen_snoc, endOf_snoc]
      rw [← h3] at r
      cases lq : look es t.2.1 with
      | none => simpa using RunTo.unseen r m lq
      | some z => exact RunTo.seen r m lq
  have := go us.length (Nat.le_refl _)
  rw [List.take_length] at this
  exact this
/-- what is asked with: the names ahead of the first thing that is none -/
theorem names_of {xs : List V} : (∀ y ∈ xs, ∃ z, y = V.str z ∧ Nm z) → ∃ zs : List PySem.Str, xs = zs.map V.str ∧ ∀ z ∈ zs, Nm z := by
  induction xs with
  | nil => exact fun _ => ⟨[], rfl, fun z h => nomatch h⟩
  | cons x xs ih =>
    intro h
    obtain ⟨z, rfl, nz⟩ := h x List.mem_cons_self
    obtain ⟨zs, e, ok⟩ := ih fun y hy => h y (List.mem_cons_of_mem _ hy)
    refine ⟨z :: zs, by rw [e]; rfl, fun u hu => ?_⟩
    rcases List.mem_cons.mp hu with q | q
    · rw [q]; exact nz
    · exact ok u q
theorem srow_of {K : PySem.W.Frag} {C : Addr} {H : Hp} {a : Addr} {xs : List V} (bi : Bi K C) (cl : Cls K C) (r : RowAt K H a xs) (ob : ∀ x ∈ xs, Ob C H x) (few : xs.length ≤ 70) : ∃ o, SRow K H (.ref a) o := by
  rcases first_bad bi cl ob with ⟨hs, rfl, nm⟩ | ⟨i, x, hi, ox, nx, pre⟩
  · exact ⟨some (hs, false), .row r few (by rw [← List.map_take, List.take_length]) nm (.inr ⟨rfl, by rw [List.length_map]⟩)⟩
  · obtain ⟨zs, e, ok⟩ := names_of pre
    have il : i < xs.length := (List.getElem?_eq_some_iff.mp hi).1
    have zl : zs.length = i := by
      have := congrArg List.length e
      rw [List.length_take, List.length_map] at this
      omega
    exact ⟨some (zs, true), .row r few (by rw [zl]; exact e) ok (.inl ⟨rfl, x, by rw [zl]; exact hi, nx⟩)⟩
theorem ref_shaped (i : Int) : SeqAt.shaped (.tuple [.str "refused", .int i, .bool true]) = true := by
  show ((PyData.tuple [.str "refused", .int i, .bool true]).canLay0 && decide ((PyData.tuple [.str "refused", .int i, .bool true]).depth ≤ 64)) = true
  have h : PyData.strOk "refused" = true := by decide +kernel
  simp [PyData.canLay0, PyData.canLayAll0, PyData.depth, PyData.depthAll, h]
theorem told_shaped (ys : List Int) : SeqAt.shaped (.tuple [.str "told", .list (ys.map PyData.int)]) = true := by
  show ((PyData.tuple [.str "told", .list (ys.map PyData.int)]).canLay0 && decide ((PyData.tuple [.str "told", .list (ys.map PyData.int)]).depth ≤ 64)) = true
  have h : PyData.strOk "told" = true := by decide +kernel
  have d := ints_depth ys
  have e : PyData.depth (.tuple [.str "told", .list (ys.map PyData.int)]) ≤ 64 := by
    simp only [PyData.depth, PyData.depthAll]
    omega
  rw [decide_eq_true e, Bool.and_true]
  simp [PyData.canLay0, PyData.canLayAll0, h, ints_lay]
theorem rg7 : ∀ l : Fin 62, (Builtin.Range.small 0 (l.val : Int) 7 && (decide (0 ≤ Builtin.Range.rangeSize 0 (l.val : Int) 7) && decide (Builtin.Range.rangeSize 0 (l.val : Int) 7 ≤ 61))) = true := by decide +kernel
theorem rgc7 {l : Nat} (h : l ≤ 61) : ∃ n, RgC 0 (l : Int) 7 n ∧ n ≤ 61 := by
  obtain ⟨h1, h2⟩ := Bool.and_eq_true_iff.mp (rg7 ⟨l, by omega⟩)
  obtain ⟨h2, h3⟩ := Bool.and_eq_true_iff.mp h2
  have h2 : 0 ≤ Builtin.Range.rangeSize 0 (l : Int) 7 := of_decide_eq_true h2
  have h3 : Builtin.Range.rangeSize 0 (l : Int) 7 ≤ 61 := of_decide_eq_true h3
  exact ⟨(Builtin.Range.rangeSize 0 (l : Int) 7).toNat, ⟨by decide, by decide, h1, by show _ = ((_ : Nat) : Int); omega⟩, by omega⟩
section
variable {P : Program} {w : World} {K : PySem.W.Frag} {mg : PySem.Str → Option Value} {base : Heap} {C CV CS cd : Addr}
theorem ok_law (T : Bt mg) (pc : PlC K C) (vc : VwC K CV) (bi : Bi K CV) (c_law_stream : Cl P w K mg base 1 "_law_stream" (spStream K) []) (c_law_draw : Cl P w K mg base 1 "_law_draw" spDraw []) (c_law_states : Cl P w K mg base 2 "_law_states" spStates []) (c_law_names : Cl P w K mg base 2 "_law_names" spNames [])
    (c_law_steps : Cl P w K mg base 2 "_law_steps" spSteps []) (c_law_marks : Cl P w K mg base 2 "_law_marks" (spMarks K) []) (c_law_view : Cl P w K mg base 2 "_law_view" spLView []) (c_law_wanted_run : Cl P w K mg base 2 "_law_wanted_run" (spWRun K) []) (c_law_spoilt : Cl P w K mg base 5 "_law_spoilt" (spSpoilt K CV) [])
    (c_law_due : Cl P w K mg base 3 "_law_due" (spDue13 K) []) (c_law_ask : Cl P w K mg base 6 "_law_ask" (spAsk13 K C CV) []) (c_law_integers : Cl P w K mg base 2 "_law_integers" spIntegers [])
    (c_sights_of : Cl P w K mg base 4 "sights_of" (spSightsOf C CV) []) (c_end_of : Cl P w K mg base 4 "end_of" (spEndOf C) []) (x_wanted_ends : Clx P w K mg base 5 "wanted_ends" (spWEndsR K C CV CS) [])
    (k_Plant : Mr P w K mg base 5 "Plant" C (spPlant K C) []) (k_View : Mr P w K mg base 3 "View" CV (spView K CV) [])
    {f : Addr} {fd : FuncData} (F : FunD K "law" "law" (defArgs s_law) (defBody s_law) (defScope s_law) [] [] f fd) : FnOk P w K mg base CX0 8 f fd ["_law_script"] (spLaw K) := by
  refine F.ok sc_law (fun vs H Q E h => ?_) (fun cdv A0 outer s0 H vs Q E hr h => ?_)
  · obtain ⟨a, ns, rfl, _⟩ := h
    rfl
  · obtain ⟨a, ns, rfl, ha, k⟩ := h
    have hu64 := hu64_of hr
    have hu := hu_of hr
    refine ⟨_, PSs.nox (pss_cons (ps_set (i := 1) sc_law.nd rfl (Or.inl rfl) (pe_cl c_law_stream hr (by decide) rfl (pa_cons (pv 0) (pa_cons pe_int pa_nil)))) (pss_cons (ps_set (i := 2) sc_law.nd rfl (Or.inl rfl) (pe_cl c_law_states hr (by decide) rfl (pa_cons (pv 1) (pa_cons (pe_op op_add pe_int (pe_cl c_law_draw hr (by decide) rfl (pa_cons (pv 1) (pa_cons pe_int pa_nil)))) pa_nil)))) (pss_cons (ps_set (i := 3) sc_law.nd rfl (Or.inl rfl) (pe_cl c_law_names hr (by decide) rfl (pa_cons (pv 1) (pa_cons pe_int pa_nil)))) (pss_cons (ps_set (i := 4) sc_law.nd rfl (Or.inr rfl) (pe_cl c_law_steps hr (by decide) rfl (pa_cons (pv 1) (pa_cons (pv 2) (pa_cons (pe_slice sl_list (pv 3) po_none (po_some (pe_op op_add pe_int (pe_cl c_law_draw hr (by decide) rfl (pa_cons (pv 1) (pa_cons pe_int pa_nil)))))) (pa_cons pe_int pa_nil)))))) (pss_cons (ps_asg (pe_cl c_law_marks hr (by decide) rfl (pa_cons (pe_cl c_law_stream hr (by decide) rfl (pa_cons (pv 0) (pa_cons pe_int pa_nil))) (pa_cons (pv 4) pa_nil))) (pg_tup rfl (pgs_cons (pg_name (i := 5) sc_law.nd rfl (Or.inl rfl)) (pgs_cons (pg_name (i := 6) sc_law.nd rfl (Or.inl rfl)) pgs_nil)))) (pss_cons (ps_set (i := 7) sc_law.nd rfl (Or.inl rfl) (pe_cl c_law_stream hr (by decide) rfl (pa_cons (pv 0) (pa_cons pe_int pa_nil)))) (pss_cons (ps_asg (pe_cl c_law_view hr (by decide) rfl (pa_cons (pv 7) (pa_cons (pv 3) (pa_cons (pe_slice sl_list (pv 3) (po_some pe_int) (po_some pe_int)) pa_nil)))) (pg_tup rfl (pgs_cons (pg_name (i := 8) sc_law.nd rfl (Or.inr rfl)) (pgs_cons (pg_name (i := 9) sc_law.nd rfl (Or.inl rfl)) pgs_nil)))) (Evl.pss_cut (ps_set (i := 10) sc_law.nd rfl (Or.inl rfl) (pe_mr k_Plant hr (by decide) rfl (pa_cons (pe_ix ix_list (pv 2) pe_int (fun _ _ => rfl)) (pa_cons (pv 4) (pa_cons (pv 5) (pa_cons (pv 6) pa_nil)))))) (pss_cons (ps_set (i := 11) sc_law.nd rfl (Or.inl rfl) (pe_mr k_View hr (by decide) rfl (pa_cons (pv 8) (pa_cons (pv 9) pa_nil)))) (Evl.pss_cut (ps_set (i := 12) sc_law.nd rfl (Or.inl rfl) (pe_cl c_law_wanted_run hr (by decide) rfl (pa_cons (pv 0) (pa_cons (pv 4) (pa_cons (pv 5) (pa_cons (pe_ix ix_list (pv 2) pe_int (fun _ _ => rfl)) pa_nil)))))) (pss_cons (ps_set (i := 13) sc_law.nd rfl (Or.inl rfl) (pe_cl c_sights_of hr (by decide) rfl (pa_cons (pv 10) (pa_cons (pv 11) (pa_cons (pv 12) pa_nil))))) (Evl.pss_cut (ps_if (pt_cmpR (op_neD hu64) (pv 13) (pe_lc (own := [("_law_number", 19)]) rfl sc_law.nd (pi_seq (pv 12)) (blkOk_by (N := N_law) (sc := defScope s_law) (by decide +kernel)) (fun _ _ _ _ _ => (pg_name (i := 19) sc_law.nd rfl (Or.inl rfl))) (fun _ _ _ _ _ => (pts_one (pt_cmp (pc_din hu (pe_ix (ixT K) (pe_ix (ixL K) (pv 4) (pv 19) (fun _ _ => rfl)) pe_int (fun _ _ => rfl)) (pv 8))))) (fun _ _ _ _ _ => (pe_dget hu (pv 8) (pe_ix (ixT K) (pe_ix (ixL K) (pv 4) (pv 19) (fun _ _ => rfl)) pe_int (fun _ _ => rfl)) (fun _ _ => rfl)))) (nomark _)) (pss_one (ps_ret pe_bl)) pss_nil) (Evl.pss_cut (ps_if (pt_cmpR op_notIn_seq (pe_cl c_end_of hr (by decide) rfl (pa_cons (pv 10) (pa_cons (pv 12) pa_nil))) (Ers.pe_clx x_wanted_ends hr (by decide) takes0 rfl (pa_cons (pv 10) (pa_cons (pv 11) (pa_cons (pe_callTy call_tuple_of (by rfl) T.b_tuple (by decide +kernel) (pa_cons (pv 13) pa_nil)) pa_nil)))) (by rfl)) (pss_one (ps_ret pe_bl)) pss_nil) (Evl.pss_cut (ps_set (i := 14) sc_law.nd rfl (Or.inr rfl) (pe_cl c_law_spoilt hr (by decide) rfl (pa_cons (pv 7) (pa_cons (pv 13) (pa_cons (pv 3) pa_nil))))) (pss_cons (ps_set (i := 15) sc_law.nd rfl (Or.inl rfl) (pe_lst (pa_cons (pv 14) pa_nil))) (Evl.pss_cut (ps_if (pt_val (pe_callB call_isi (by rfl) T.b_isinstance (by decide +kernel) (pa_cons (pv 14) (pa_cons (pe_bltn (v := .ty "list") (by rfl) T.b_list (by decide +kernel) rfl) pa_nil)))) (pss_one (ps_set (i := 15) sc_law.nd rfl (Or.inl rfl) (pe_op op_cat (pe_lc (own := [("_law_count", 20)]) (tt := tYes) rfl sc_law.nd (pi_range3 rfl T.b_range (pa_cons pe_int (pa_cons (pe_callB call_len_seq (by rfl) T.b_len PySem.boot_len (pa_cons (pv 14) pa_nil)) (pa_cons pe_int pa_nil)))) (blkOk_by (N := N_law) (sc := defScope s_law) (by decide +kernel)) (fun _ _ _ _ _ => (pg_name (i := 20) sc_law.nd rfl (Or.inl rfl))) (fun _ _ _ _ _ => pts_nil) (fun _ _ _ _ _ => (pe_slice (slL K) (pv 14) po_none (po_some (pv 20))))) (pe_lst (pa_cons (pv 14) pa_nil))))) pss_nil) (pss_cons (ps_for PassesOwn.never rfl (pi_list (pv 15)) (pg_name (i := 16) sc_law.nd rfl (Or.inl rfl)) (pss_cons (ps_set (i := 17) sc_law.nd rfl (Or.inl rfl) (pe_cl c_law_due hr (by decide) rfl (pa_cons (pv 4) (pa_cons (pv 5) (pa_cons (pe_ix ix_list (pv 2) pe_int (fun _ _ => rfl)) (pa_cons (pv 8) (pa_cons (pv 16) pa_nil))))))) (pss_cons (ps_set (i := 18) sc_law.nd rfl (Or.inl rfl) (pe_cl c_law_ask hr (by decide) rfl (pa_cons (pv 10) (pa_cons (pv 11) (pa_cons (pv 16) pa_nil))))) (pss_cons (ps_if (PW.pt (pw_and (pt_cmpR op_eq (pe_ix ix_tup (pv 17) pe_int (fun _ _ => rfl)) pe_str (nomark _)) (pw_and1 (pt_cmpR (op_neD hu64) (pv 18) (pe_tup (pa_cons pe_str (pa_cons (pe_ix ix_tup (pv 17) pe_int (fun _ _ => rfl)) (pa_cons pe_bl pa_nil)))) (nomark _))))) (pss_one (ps_ret pe_bl)) pss_nil) (pss_one (ps_if (pt_cmpR op_eq (pe_ix ix_tup (pv 17) pe_int (fun _ _ => rfl)) pe_str (nomark _)) (pss_cons (ps_if (PW.pt (pw_or (pt_cmpR op_ne (pe_ix ix_tup (pv 18) pe_int (fun _ _ => rfl)) pe_str (nomark _)) (pw_or1 (pt_not (pt_val (pe_cl c_law_integers hr (by decide) rfl (pa_cons (pe_ix ix_tup (pv 18) pe_int (fun _ _ => rfl)) (pa_cons (pe_ix ix_tup (pv 17) pe_int (fun _ _ => rfl)) pa_nil)))))))) (pss_one (ps_ret pe_bl)) pss_nil) (pss_cons (ps_expr (pe_bm PySem.F.plainAttrs_list PySem.F.slot_list_append PySem.F.type_list_append mt_append (pe_ix ix_tup (pv 18) pe_int (fun _ _ => rfl)) (pa_cons pe_int pa_nil))) (pss_one (ps_if (pt_cmpR (op_neD hu64) (pe_cl c_law_ask hr (by decide) rfl (pa_cons (pv 10) (pa_cons (pv 11) (pa_cons (pv 16) pa_nil)))) (pv 17) (nomark _)) (pss_one (ps_ret pe_bl)) pss_nil)))) pss_nil)))))) (pss_one (ps_ret pe_bl))))))))))))))))))), ?_⟩
    refine ⟨_, rfl, a, ns, 0, rfl, ha, fun st H1 m1 f1 s1 => ?_⟩
    refine ⟨_, rfl, _, rfl, st, 6, rfl, s1, by decide, by decide, fun r2 H2 r20 r21 b2 s2 => ?_⟩
    obtain ⟨n2, rfl⟩ : ∃ m : Nat, r2 = (m : Int) := ⟨r2.toNat, by omega⟩
    refine ⟨_, _, rfl, rfl, st, 1 + n2, one_more _ _, s2, by omega, fun sa is H3 f3 b3 s3 l3 len3 all3 => ?_⟩
    have na : ∀ {o : HO}, H a = some o → a ≠ st := fun e => ne_of_none e f1
    have nsa : sa ≠ st := by
      obtain ⟨x, y, z, e⟩ := s2
      exact (ne_of_none e f3).symm
    refine ⟨_, rfl, st, 4, rfl, s3, by decide, fun wa ws H4 f4 b4 s4 l4 len4 all4 => ?_⟩
    have nwa : wa ≠ st := by
      obtain ⟨x, y, z, e⟩ := s3
      exact (ne_of_none e f4).symm
    have i4 := b4 _ _ l3 nsa
    have kp4 : ∀ o, H a = some o → H4 a = some o := fun o e => b4 _ _ (b3 _ _ (b2 _ _ (m1 _ _ e) (na e)) (na e)) (na e)
    refine ⟨_, rfl, _, rfl, _, rfl, _, rfl, st, 4, rfl, s4, by decide, by decide, fun r45 H45 r450 r451 b45 s45 => ?_⟩
    obtain ⟨n45, rfl⟩ : ∃ m : Nat, r45 = (m : Int) := ⟨r45.toNat, by omega⟩
    have l45 := b45 _ _ l4 nwa
    refine ⟨_, _, rfl, rfl, ((1 + n45 : Nat) : Int), (show V.int ((1 : Int) + (n45 : Int)) = V.int ((1 + n45 : Nat) : Int) by rw [show (1 : Int) + (n45 : Int) = ((1 + n45 : Nat) : Int) by omega]), wa, _, rfl, SqL.of l45, fun cw hcw => ?_⟩
    rw [show cutV (ws.map V.str) none (some ((1 + n45 : Nat) : Int)) = (ws.take (1 + n45)).map V.str from (cut_take _ (1 + n45)).trans (by rw [List.map_take])]
    have m5 := same_new (Same.refl H45) hcw (o := .lst ((ws.take (1 + n45)).map V.str))
    have c5 : (L2.upd H45 cw (.lst ((ws.take (1 + n45)).map V.str))) cw = some (.lst ((ws.take (1 + n45)).map V.str)) := upd_same
    have s5 := s45.new hcw (o := .lst ((ws.take (1 + n45)).map V.str))
    have ncw : cw ≠ st := by
      obtain ⟨x, y, z, e⟩ := s45
      exact (ne_of_none e hcw).symm
    have i45 := b45 _ _ i4 nsa
    have kp45 : ∀ o, H a = some o → H45 a = some o := fun o e => b45 _ _ (kp4 o e) (na e)
    generalize L2.upd H45 cw (.lst ((ws.take (1 + n45)).map V.str)) = H5 at m5 c5 s5 ⊢
    have tkl : (ws.take (1 + n45)).length = 1 + n45 := by rw [List.length_take, len4]; omega
    have allT : ∀ x ∈ ws.take (1 + n45), Nm x := fun x hx => all4 x (List.mem_of_mem_take hx)
    refine ⟨st, sa, cw, 30, is, ws.take (1 + n45), rfl, s5, nsa, ncw, m5 _ _ i45, c5, by omega, by omega, by omega, by omega, all3, allT, by decide, by decide, fun pa as ts H6 f6 b6 s6 l6 L6 st6 fr6 p06 n6 => ?_⟩
    have npa : pa ≠ st := by
      obtain ⟨x, y, z, e⟩ := s5
      exact (ne_of_none e f6).symm
    have kp6 : ∀ o, H a = some o → H6 a = some o := fun o e => b6 _ _ (m5 _ _ (kp45 o e)) (na e)
    -- the marks
    refine ⟨_, rfl, a, ns, 1, rfl, sqL_keep ha kp6, fun st2 H65 m65 f65 s65 => ?_⟩
    refine ⟨_, rfl, st2, pa, _, rfl, s65, SqL.of (m65 _ _ l6), by rw [List.length_map, L6.len]; omega, fun ma aw ab wn br H7 fma faw fab ne1 ne2 ne3 b7 s7 e1 e2 e3 mk => ?_⟩
    refine ⟨ma, _, rfl, SqT.of e1, rfl, _, _, rfl, _, _, rfl, rfl, ?_⟩
    rw [List.length_map, L6.len] at mk
    have m67 : Same H6 H7 := but_same m65 b7 f65
    have i7 := m67 _ _ (b6 _ _ (m5 _ _ i45) nsa)
    have w7 := m67 _ _ (b6 _ _ (m5 _ _ l45) nwa)
    have p7 := m67 _ _ l6
    have La7 := L6.same m67
    have kp7 : ∀ o, H a = some o → H7 a = some o := fun o e => m67 _ _ (kp6 o e)
    obtain ⟨s, hs0, sm⟩ := mem_at (l := is) (i := 0) (by omega)
    have is0 : (is.map V.int)[0]? = some (.int s) := by rw [List.getElem?_map, hs0]; rfl
    have at0 : atI (is.map V.int) 0 = some (.int s) := atI_ok (n := 0) rfl is0
    have gd : GoodPl s ts wn br := ⟨all3 s sm, st6, p06, Nat.le_trans n6 (by decide), fun ys => words_few (fun t ht => (fr6 t ht).2.1) (by omega), lt_nd mk.w1, mk.w2, lt_nd mk.b1, mk.b2, mk.no⟩
    have n30 : ts.length ≤ 30 := n6
    have wn30 : wn.length ≤ 30 := Nat.le_trans (ints_few gd.wn1 gd.wn2) n30
    -- the view's parts
    refine ⟨_, rfl, a, ns, 2, rfl, sqL_keep ha kp7, fun sv H8 m8 f8 s8 => ?_⟩
    refine ⟨_, rfl, _, rfl, _, rfl, 1, rfl, 3, rfl, wa, _, rfl, SqL.of (m8 _ _ w7), fun cz hcz => ?_⟩
    rw [show cutV (ws.map V.str) (some 1) (some 3) = ((ws.drop 1).take 2).map V.str from (cut_mid _ 1 3 (by rw [List.length_map]; omega) (by decide)).trans (by rw [List.map_take, List.map_drop])]
    have m9 := same_new m8 hcz (o := .lst (((ws.drop 1).take 2).map V.str))
    have c9 : (L2.upd H8 cz (.lst (((ws.drop 1).take 2).map V.str))) cz = some (.lst (((ws.drop 1).take 2).map V.str)) := upd_same
    have s9 := s8.new hcz (o := .lst (((ws.drop 1).take 2).map V.str))
    have nvz : sv ≠ cz := by
      obtain ⟨x, y, z, e⟩ := s8
      exact ne_of_none e hcz
    have nvw : sv ≠ wa := (ne_of_none w7 f8).symm
    generalize L2.upd H8 cz (.lst (((ws.drop 1).take 2).map V.str)) = H9 at m9 c9 s9 ⊢
    refine ⟨sv, wa, cz, ws, (ws.drop 1).take 2, rfl, s9, nvw, nvz, m9 _ _ w7, c9, by omega, by rw [List.length_take]; omega, all4, fun x hx => all4 x (List.mem_of_mem_drop (List.mem_of_mem_take hx)), fun pp td hd es hs H10 fp ft fh b10 s10 e10 t10 h10 nd ok le lh okh => ?_⟩
    refine ⟨pp, _, rfl, SqT.of e10, rfl, _, _, rfl, _, _, rfl, rfl, ?_⟩
    have m10 : Same H7 H10 := but_same m9 b10 f8
    have i10 := m10 _ _ i7
    -- the plant
    refine ⟨fun σ' H' => ∃ (A : PlAt) (d : Pl), σ' = [some (.ref a), some (.ref st), some (.ref sa), some (.ref wa), some (.ref pa), some (.ref aw), some (.ref ab), some (.ref sv), some (.ref td), some (.ref hd), some (.ref A.p), none, none, none, none, none, none, none, none, none, none] ∧ IsPl C H' A d ∧ PlOf s ts wn br d ∧ Same H10 H' ∧ (∀ l ∈ A.lists, l ≠ sv), ?_, ?_⟩
    · refine ⟨_, rfl, sa, _, _, .int s, rfl, rfl, SqL.of i10, at0, _, rfl, _, rfl, _, rfl, fun x dx nx ndx nex => ?_⟩
      have mx := made (o1 := .own x) (o2 := .ins C dx []) nx ndx nex
      refine ⟨x, dx, s, pa, aw, ab, as, ts, wn, br, rfl, upd_same, .lst (mx _ _ (m10 _ _ p7)), (La7.same m10).same mx, .lst (mx _ _ (m10 _ _ e2)), .lst (mx _ _ (m10 _ _ e3)), gd, fun A d H11 eA edx fr bu ip po => ⟨rfl, ?_⟩⟩
      subst eA
      exact ⟨A, d, rfl, ip, po, fun b o e => bu b o (mx b o e) (ne_of_none e nx), fun l hl => stm_ne (s10.keep mx) (fr l hl)⟩
    rintro σ' H11 ⟨A, d, rfl, ip, po, m11, nAl⟩
    have dw : d.wanted = wn := asc_perm po.wanted.2 (mk.w1.imp fun h => Int.le_of_lt h) po.wanted.1
    -- the view
    refine ⟨_, rfl, _, rfl, fun y dy ny ndy ney => ?_⟩
    have my := made (o1 := .own y) (o2 := .ins CV dy []) ny ndy ney
    refine ⟨y, dy, .ref td, hd, es, hs, rfl, upd_same, .inr ⟨td, rfl, my _ _ (m11 _ _ t10)⟩, nd, ok, by omega, .lst (my _ _ (m11 _ _ h10)), okh, by omega, fun B e H12 eB edx2 fr2 bu2 iv eS eH => ⟨rfl, ?_⟩⟩
    subst eB
    have m12 : Same H11 H12 := fun b o e => bu2 b o (my b o e) (ne_of_none e ny)
    have nBl : ∀ l ∈ B.lists, l ≠ sv := fun l hl => stm_ne ((s10.keep m11).keep my) (fr2 l hl)
    have nBp : B.p ≠ sv := stm_ne (s10.keep m11) ny
    have mm12 : Same H7 H12 := (m10.trans m11).trans m12
    have i12 := mm12 _ _ i7
    -- the run
    refine ⟨fun σ' H' => ∃ (q : Addr) (rs : List Nat) (us : List Tr), σ' = [some (.ref a), some (.ref st), some (.ref sa), some (.ref wa), some (.ref pa), some (.ref aw), some (.ref ab), some (.ref sv), some (.ref td), some (.ref hd), some (.ref A.p), some (.ref B.p), some (.ref q), none, none, none, none, none, none, none, none] ∧ Same H12 H' ∧ H' q = some (.tup (runV rs)) ∧ RunOk ts s rs us ∧ rs.length ≤ 60 ∧ (∀ n ∈ rs, (n : Int) ∈ wn), ?_, ?_⟩
    · exact ⟨_, rfl, _, rfl, _, rfl, _, rfl, sa, _, _, .int s, rfl, rfl, SqL.of i12, at0, a, pa, aw, s, ns, as, ts, wn, rfl, sqL_keep ha fun o e => mm12 _ _ (kp7 o e), mm12 _ _ p7, La7.same mm12, mm12 _ _ e2, mk.w2, by omega, fun q rs us H13 m13 f13 hq rok rl inw => ⟨q, rs, us, rfl, m13, hq, rok, rl, inw⟩⟩
    rintro σ' H13 ⟨q, rs, us, rfl, m13, hq, rok, rl, inw⟩
    have mm13 := mm12.trans m13
    have ip13 := (ip.same m12).same m13
    have iv13 := iv.same m13
    have ra13 : RunAt C H13 A d q rs us := ⟨ip13, hq, by rw [po.steps, po.start]; exact rok, by omega⟩
    -- its sights
    refine ⟨_, rfl, _, rfl, _, rfl, A, d, B, e, q, rs, us, rfl, ra13, iv13, fun qs H14 m14 f14 hqs => ?_⟩
    rw [eS] at hqs
    have mm14 := mm13.trans m14
    have p14 := mm14 _ _ p7
    have La14 := La7.same mm14
    have t14 := m14 _ _ (m13 _ _ (m12 _ _ (m11 _ _ t10)))
    have q14 := m14 _ _ hq
    have us60 : us.length ≤ 60 := by rw [← rok.len]; exact rl
    have oks : ∀ y ∈ seen es us, Nm y := fun y hy => by
      obtain ⟨t, _, e2⟩ := List.mem_filterMap.mp hy
      unfold look at e2
      obtain ⟨e3, he, q3⟩ := Option.map_eq_some_iff.mp e2
      rw [← q3]
      exact (ok e3 (List.mem_of_find?_eq_some he)).2
    have sl60 : (seen es us).length ≤ 60 := Nat.le_trans (seen_len es us) us60
    refine ⟨fun σ' H' => ∃ (v19 v20 : Option V), σ' = [some (.ref a), some (.ref st), some (.ref sa), some (.ref wa), some (.ref pa), some (.ref aw), some (.ref ab), some (.ref sv), some (.ref td), some (.ref hd), some (.ref A.p), some (.ref B.p), some (.ref q), some (.ref qs), none, none, none, none, none, v19, v20] ∧ Same H14 H', ?_, ?_⟩
    · skip
      refine ⟨_, rfl, _, rfl, q, rfl, lc_seq (K := K) (H0 := H14) (xs := runV rs) (.inr (SqT.of q14)) (fun o e => e) (fun D i H' => Same H14 H' ∧ H' D = some (.lst ((seen es (us.take i)).map V.str))) (fun D hD => ⟨same_new (Same.refl _) hD, upd_same⟩) (fun D i H' _ _ ⟨sm, _⟩ o e => sm _ _ e) ?_ ?_⟩
      · rintro D i x H' hD hx ⟨sm2, hl⟩
        obtain ⟨n, hn, rfl⟩ := run_at hx
        obtain ⟨t, ht1, ht2, _⟩ := rok.at_ i n hn
        obtain ⟨qa, ha2, hqa⟩ := La14.at_ ht2
        have q3 := sm2 _ _ hqa
        have pp3 := sm2 _ _ p14
        have tt3 := sm2 _ _ t14
        have il : i < us.length := (List.getElem?_eq_some_iff.mp ht1).1
        have sl := seen_len es (us.take i)
        rw [List.length_take] at sl
        refine ⟨rfl, _, rfl, _, rfl, pa, _, _, .ref qa, rfl, rfl, SqL.of pp3, atI_nat (by rw [List.getElem?_map, ha2]; rfl), qa, _, _, .str t.2.1, rfl, rfl, SqT.of q3, rfl, _, rfl, td, _, rfl, DGet.k (k := .inr t.2.1) tt3, _, rfl, ?_⟩
        have lv := look_val es t.2.1
        cases lq : look es t.2.1 with
        | none =>
          rw [lq] at lv
          rw [lv]
          refine iteF ⟨sm2, ?_⟩
          rw [take_at ht1, seen_snoc, lq]
          simpa using hl
        | some z =>
          rw [lq] at lv
          have dg := DGet.k (k := .inr t.2.1) tt3
          rw [lv] at dg ⊢
          refine iteT ⟨_, rfl, _, rfl, _, rfl, pa, _, _, .ref qa, rfl, rfl, SqL.of pp3, atI_nat (by rw [List.getElem?_map, ha2]; rfl), qa, _, _, .str t.2.1, rfl, rfl, SqT.of q3, rfl, td, .str z, rfl, dg, _, hl, by rw [List.length_map]; exact small1000 (by omega), same_put sm2 hD, ?_⟩
          rw [upd_same, take_at ht1, seen_snoc, lq, List.map_append]
          rfl
      rintro D H15 hD ⟨m15, hl⟩
      rw [run_len, rok.len, List.take_length] at hl
      have hqs15 := m15 _ _ hqs
      have shp : SeqAt.shaped (.list ((seen es us).map PyData.str)) = true := strs_shaped fun y hy => nm_ok1 (oks y hy)
      refine ⟨_, _, .lst (SqL.of hqs15) (dp_strs _), .lst (SqL.of hl) (dp_strs _), shp, shp, _, rfl, ?_⟩
      rw [eqv_same shp]
      exact iteF ⟨_, _, rfl, m15⟩
    rintro σ' H15 ⟨v19, v20, rfl, m15⟩
    have mm15 := mm14.trans m15
    have ip15 := ip13.same (m14.trans m15)
    have iv15 := iv13.same (m14.trans m15)
    have ra15 := ra13.same (m14.trans m15)
    have rt : RunTo es (wantedOf ts wn) s (seen es us) (endOf s us) := run_to rok inw es
    -- its end
    refine ⟨fun σ' H' => σ' = [some (.ref a), some (.ref st), some (.ref sa), some (.ref wa), some (.ref pa), some (.ref aw), some (.ref ab), some (.ref sv), some (.ref td), some (.ref hd), some (.ref A.p), some (.ref B.p), some (.ref q), some (.ref qs), none, none, none, none, none, v19, v20] ∧ Same H15 H', ?_, ?_⟩
    · skip
      refine ⟨_, rfl, _, rfl, A, d, q, rs, us, rfl, ra15, fun H16 m16 => ?_⟩
      have ip16 := ip15.same m16
      have iv16 := iv15.same m16
      have hqs16 := m16 _ _ (m15 _ _ hqs)
      refine ⟨_, rfl, _, rfl, _, rfl, qs, _, rfl, .inl ⟨SqL.of hqs16, fun tq htq => ?_⟩⟩
      have m17 := same_new (Same.refl H16) htq (o := .tup ((seen es us).map V.str))
      have tq17 : (L2.upd H16 tq (.tup ((seen es us).map V.str))) tq = some (.tup ((seen es us).map V.str)) := upd_same
      have ip17 := ip16.same m17
      have iv17 := iv16.same m17
      generalize L2.upd H16 tq (.tup ((seen es us).map V.str)) = H17 at m17 tq17 ip17 iv17 ⊢
      have row17 : SRow K H17 (.ref tq) (some (seen es us, false)) := .row (RowAt.tup tq17) (by rw [List.length_map]; omega) (by rw [← List.map_take, List.take_length]) oks (.inr ⟨rfl, by rw [List.length_map]⟩)
      have wok : ∀ x ∈ d.wanted, 0 ≤ x ∧ x < (d.steps.length : Int) := by rw [dw, po.steps]; exact mk.w2
      refine ⟨A, d, B, e, .ref tq, _, rfl, ip17, iv17, wok, row17, fun ys qe H18 due few18 m18 f18 hqe => ?_, fun i due => ?_⟩
      rotate_left
      · exfalso
        rw [eS, dw, po.steps, po.start] at due
        rcases due with ⟨j, jl, _, no, _⟩ | ⟨ys, te, _, er⟩
        · obtain ⟨x2, hx2⟩ := rt.pre (j + 1) (by omega)
          exact no x2 hx2
        · cases er
      have yin : endOf s us ∈ ys := by
        rw [eS, dw, po.steps, po.start] at due
        rcases due with ⟨j, jl, _, no, er⟩ | ⟨ys2, te, _, er⟩
        · cases er
        · cases er
          exact (te.2 _).2 rt
      refine ⟨qe, _, rfl, .inl (SqL.of hqe), rfl, all_flat_ints ys, _, rfl, ?_⟩
      rw [po.start, inV_ints, decide_eq_true yin]
      exact iteF ⟨rfl, (m16.trans m17).trans m18⟩
    rintro σ' H18 ⟨rfl, m1518⟩
    have m1418 := m15.trans m1518
    have ip18 := ip15.same m1518
    have iv18 := iv15.same m1518
    have wok : ∀ x ∈ d.wanted, 0 ≤ x ∧ x < (d.steps.length : Int) := by rw [dw, po.steps]; exact mk.w2
    have m1018 : Same H10 H18 := ((((m11.trans m12).trans m13).trans m14)).trans m1418
    have mm18 := m10.trans m1018
    -- the row
    have s18 := s10.keep m1018
    have nvq : sv ≠ qs := by
      obtain ⟨x, y, z, e⟩ := s10
      exact ne_of_none ((((m11.trans m12).trans m13)) _ _ e) f14
    refine ⟨fun σ' H' => ∃ v : V, σ' = [some (.ref a), some (.ref st), some (.ref sa), some (.ref wa), some (.ref pa), some (.ref aw), some (.ref ab), some (.ref sv), some (.ref td), some (.ref hd), some (.ref A.p), some (.ref B.p), some (.ref q), some (.ref qs), some v, none, none, none, none, v19, v20] ∧ But sv H18 H' ∧ Spl K CV H' v, ?_, ?_⟩
    · exact ⟨_, rfl, _, rfl, _, rfl, sv, qs, wa, seen es us, ws, rfl, s18, nvq, nvw, m1418 _ _ hqs, mm18 _ _ w7, sl60, by omega, by omega, oks, all4, fun v H19 b19 s19 sp => ⟨v, rfl, b19, sp⟩⟩
    rintro σ' H19 ⟨v, rfl, b19, sp⟩
    -- what stays
    have m19 : Same H7 H19 := but_same mm18 b19 f8
    have ip19 := ip18.but b19 s18 nAl
    have iv19 := iv18.but b19 nBp (nBl _ (by simp [VwAt.lists])) (nBl _ (by simp [VwAt.lists]))
    have tdn : td ≠ sv := fun e => by
      obtain ⟨x, y, z, q2⟩ := s10
      rw [e, q2] at t10
      cases t10
    have t19 := b19 _ _ (m1018 _ _ t10) tdn
    refine ⟨_, rfl, (by show 1 ≤ sizeLine; decide), fun D0 hD0 => ?_⟩
    have m20 := same_new (Same.refl H19) hD0 (o := .lst [v])
    have d20 : (L2.upd H19 D0 (.lst [v])) D0 = some (.lst [v]) := upd_same
    have sp20 := sp.same m20
    generalize L2.upd H19 D0 (.lst [v]) = H20 at m20 d20 sp20 ⊢
    refine ⟨fun σ' H' => ∃ (D : Addr) (ps : List V) (v20 : Option V), σ' = [some (.ref a), some (.ref st), some (.ref sa), some (.ref wa), some (.ref pa), some (.ref aw), some (.ref ab), some (.ref sv), some (.ref td), some (.ref hd), some (.ref A.p), some (.ref B.p), some (.ref q), some (.ref qs), some v, some (.ref D), none, none, none, v19, v20] ∧ Same H20 H' ∧ H' D = some (.lst ps) ∧ ∀ p ∈ ps, ∃ o, SRow K H' p o, ?_, ?_⟩
    · cases sp20 with
      | @out v t ty no nl => exact ⟨_, rfl, _, _, _, _, false, rfl, .ty _, ty, nl, false, rfl, iteF ⟨D0, [v], _, rfl, Same.refl _, d20, fun p hp => by rw [List.mem_singleton.mp hp]; exact ⟨none, .out ty no⟩⟩⟩
      | @row ra xs hra ob few =>
        refine ⟨_, rfl, _, _, _, _, true, rfl, .ty _, .base (.lst hra), kit_ty (by decide +kernel), true, rfl, iteT ?_⟩
        obtain ⟨n, rg, nl⟩ := rgc7 few
        refine ⟨_, rfl, ra, _, rfl, .inl (SqL.of hra), 0, _, 7, n, rfl, rg, fun D2 hD2 => lc_it walk_rangeC (fun i H' => ∃ qs : List Addr, Same H20 H' ∧ H' D2 = some (.lst (qs.map V.ref)) ∧ qs.length = i ∧ ∀ q ∈ qs, ∃ m, H' q = some (.lst (xs.take m)) ∧ q ≠ D2) ?_ (fun _ _ _ _ => trivial) ?_ ?_⟩
        · exact ⟨[], same_new (Same.refl _) hD2, upd_same, rfl, fun q hq => nomatch hq⟩
        · rintro i x H1' H2' hi ⟨qs, sm2, hl, len, all⟩ ⟨rfl, rfl⟩
          refine ⟨rfl, _, rfl, _, rfl, _, rfl, ra, _, rfl, SqL.of (sm2 _ _ hra), fun q hq => ?_⟩
          have nqD : q ≠ D2 := (ne_of_none hl hq).symm
          rw [show cutV xs none (some ((0 : Int) + (i : Nat) * 7)) = xs.take (i * 7) by rw [show (0 : Int) + (i : Nat) * 7 = ((i * 7 : Nat) : Int) by omega]; exact cut_take _ _]
          refine ⟨_, by rw [upd_ne nqD.symm]; exact hl, by rw [List.length_map, len]; exact small1000 (by omega), qs ++ [q], same_put (same_new sm2 hq) hD2, by rw [upd_same, List.map_append]; rfl, by rw [List.length_append, len]; rfl, fun y hy => ?_⟩
          rcases List.mem_append.mp hy with z | z
          · obtain ⟨m, hm, ny⟩ := all y z
            exact ⟨m, by rw [upd_ne ny, upd_ne (ne_of_none hm hq)]; exact hm, ny⟩
          · rw [List.mem_singleton.mp z]
            exact ⟨i * 7, by rw [upd_ne nqD]; exact upd_same, nqD⟩
        · rintro H3 ⟨qs2, sm2, hl, len, all⟩
          refine ⟨_, rfl, (by show 1 ≤ sizeLine; decide), fun d2 hd2 => ?_⟩
          have m4 := same_new sm2 hd2 (o := .lst [.ref ra])
          have n4 := same_new (Same.refl H3) hd2 (o := .lst [.ref ra])
          have d4 : (L2.upd H3 d2 (.lst [.ref ra])) d2 = some (.lst [.ref ra]) := upd_same
          generalize L2.upd H3 d2 (.lst [.ref ra]) = H4 at m4 n4 d4 ⊢
          refine ⟨D2, d2, _, _, rfl, rfl, n4 _ _ hl, d4, by rw [List.length_map, len]; show n + 1 ≤ sizeLine; exact Nat.le_trans (show n + 1 ≤ 62 by omega) (by decide), fun p hp => ?_⟩
          have m5 := same_new m4 hp (o := .lst (qs2.map V.ref ++ [.ref ra]))
          have n5 := same_new n4 hp (o := .lst (qs2.map V.ref ++ [.ref ra]))
          refine ⟨p, _, _, rfl, m5, upd_same, fun y hy => ?_⟩
          have ob5 : ∀ x ∈ xs, Ob CV (L2.upd H4 p (.lst (qs2.map V.ref ++ [.ref ra]))) x := fun x hx => (ob x hx).same m5
          rcases List.mem_append.mp hy with z | z
          · obtain ⟨u, hu2, rfl⟩ := List.mem_map.mp z
            obtain ⟨m, hm, _⟩ := all u hu2
            exact srow_of bi vc.cl (RowAt.lst (n5 _ _ hm)) (fun x hx => ob5 x (List.mem_of_mem_take hx)) (by rw [List.length_take]; omega)
          · rw [List.mem_singleton.mp z]
            exact srow_of bi vc.cl (RowAt.lst (m5 _ _ hra)) ob5 (by omega)
    rintro σ' H21 ⟨D, ps, v20, rfl, m21, hD, rows⟩
    have m2 := m19.trans (m20.trans m21)
    have ip21 := (ip19.same m20).same m21
    have iv21 := (iv19.same m20).same m21
    have t21 := m21 _ _ (m20 _ _ t19)
    have p21 := m2 _ _ p7
    have La21 := La7.same m2
    have e21 := m2 _ _ e2
    have i21 := m2 _ _ i7
    refine ⟨_, rfl, D, rfl, ⟨_, SqL.of hD⟩, for_list (K := K) (xs := ps) (fun i σ H' => ∃ (v16 v17 v18 : Option V), σ = [some (.ref a), some (.ref st), some (.ref sa), some (.ref wa), some (.ref pa), some (.ref aw), some (.ref ab), some (.ref sv), some (.ref td), some (.ref hd), some (.ref A.p), some (.ref B.p), some (.ref q), some (.ref qs), some v, some (.ref D), v16, v17, v18, v19, v20] ∧ Same H21 H') ?_ ?_ ?_ ?_⟩
    · exact ⟨_, _, _, rfl, Same.refl _⟩
    · rintro i σ' H' _ ⟨_, _, _, _, sm2⟩
      exact SqL.of (sm2 _ _ hD)
    · rintro i x σ' H22 hx ⟨v16, v17, v18, rfl, m22⟩
      obtain ⟨o, row⟩ := rows x (List.mem_of_getElem? hx)
      have row22 := row.same m22
      refine ⟨_, rfl, _, rfl, _, rfl, sa, _, _, .int s, rfl, rfl, SqL.of (m22 _ _ i21), at0, _, rfl, _, rfl, pa, aw, td, s, x, o, as, ts, wn, es, rfl, m22 _ _ p21, La21.same m22, m22 _ _ e21, mk.w2, by omega, m22 _ _ t21, row22, fun r q1 H23 due m23 f23 at1 => ?_⟩
      have m223 := m22.trans m23
      have wok : ∀ x ∈ d.wanted, 0 ≤ x ∧ x < (d.steps.length : Int) := by rw [dw, po.steps]; exact mk.w2
      refine ⟨_, rfl, _, rfl, _, rfl, A, d, B, e, x, o, rfl, ip21.same m223, iv21.same m223, wok, row.same m223, fun r' q2 H24 due' m24 f24 at2 => ?_⟩
      rw [eS, dw, po.steps, po.start] at due'
      have er := due.one due'
      subst er
      have m224 := m223.trans m24
      cases r with
      | no j =>
        have h1 : H24 q1 = some (.tup [.str "refused", .int j]) := m24 _ _ at1
        have h2 : H24 q2 = some (.tup [.str "refused", .int j, .bl true]) := at2
        refine ⟨_, rfl, q1, _, _, .str "refused", rfl, rfl, SqT.of h1, rfl, rfl, _, rfl, ?_⟩
        rw [decide_eq_true rfl]
        refine iteT ⟨_, rfl, _, rfl, q1, _, _, .int j, rfl, rfl, SqT.of h1, rfl, (by show 3 ≤ sizeLine; decide), fun t3 ht3 => ?_⟩
        have m25 := same_new m224 ht3 (o := .tup [.str "refused", .int j, .bl true])
        have h1' : (L2.upd H24 t3 (.tup [.str "refused", .int j, .bl true])) q1 = some (.tup [.str "refused", .int j]) := by rw [upd_ne (ne_of_none h1 ht3)]; exact h1
        have h2' : (L2.upd H24 t3 (.tup [.str "refused", .int j, .bl true])) q2 = some (.tup [.str "refused", .int j, .bl true]) := by rw [upd_ne (ne_of_none h2 ht3)]; exact h2
        have h3' : (L2.upd H24 t3 (.tup [.str "refused", .int j, .bl true])) t3 = some (.tup [.str "refused", .int j, .bl true]) := upd_same
        generalize L2.upd H24 t3 (.tup [.str "refused", .int j, .bl true]) = H25 at m25 h1' h2' h3' ⊢
        refine ⟨_, _, .tup (SqT.of h2') (.cons (.str _) (.cons (.int _) (.cons (.bl _) .nil))), .tup (SqT.of h3') (.cons (.str _) (.cons (.int _) (.cons (.bl _) .nil))), ref_shaped j, ref_shaped j, _, rfl, ?_⟩
        rw [eqv_same (ref_shaped j)]
        refine iteF ⟨_, rfl, q1, _, _, .str "refused", rfl, rfl, SqT.of h1', rfl, rfl, _, rfl, ?_⟩
        rw [show decide (V.str "refused" = V.str "told") = false by decide +kernel]
        exact iteF ⟨_, _, _, rfl, m25⟩
      | is ys =>
        obtain ⟨l1, a1, a2, a3, ysl⟩ := at1
        obtain ⟨l2, c1, c2, c3, _⟩ := at2
        have h1 : H24 q1 = some (.tup [.str "told", .ref l1]) := m24 _ _ a1
        have h1l : H24 l1 = some (.lst (ys.map V.int)) := m24 _ _ a2
        have nl : l1 ≠ l2 := ne_of_none a2 c3
        refine ⟨_, rfl, q1, _, _, .str "told", rfl, rfl, SqT.of h1, rfl, rfl, _, rfl, ?_⟩
        rw [show decide (V.str "told" = V.str "refused") = false by decide +kernel]
        refine iteF ⟨_, rfl, q1, _, _, .str "told", rfl, rfl, SqT.of h1, rfl, rfl, _, rfl, ?_⟩
        rw [decide_eq_true rfl]
        refine iteT ?_
        -- told: the same states
        refine ⟨_, rfl, q2, _, _, .str "told", rfl, rfl, SqT.of c1, rfl, rfl, _, rfl, iteNS rfl ?_⟩
        refine ⟨_, rfl, q2, _, _, .ref l2, rfl, rfl, SqT.of c1, rfl, _, rfl, q1, _, _, .ref l1, rfl, rfl, SqT.of h1, rfl, l2, l1, ys, rfl, c2, h1l, ysl, fun H25 m25 => ⟨true, rfl, iteF ?_⟩⟩
        have c1' := m25 _ _ c1
        have c2' := m25 _ _ c2
        refine ⟨_, rfl, q2, _, _, .ref l2, rfl, rfl, SqT.of c1', rfl, .inl ⟨rfl, _, SqL.of c2'⟩, l2, _, _, rfl, rfl, c2', by rw [List.length_map]; exact small1000 (by omega), ?_⟩
        have l20 : H21 l2 = none := m223.free c3
        have m26 := same_put (m224.trans m25) l20 (o := .lst (ys.map V.int ++ [.int 7]))
        have h1' : (L2.upd H25 l2 (.lst (ys.map V.int ++ [.int 7]))) q1 = some (.tup [.str "told", .ref l1]) := by rw [upd_ne (ne_of (m25 _ _ h1) c2' fun z => nomatch z)]; exact m25 _ _ h1
        have h1l' : (L2.upd H25 l2 (.lst (ys.map V.int ++ [.int 7]))) l1 = some (.lst (ys.map V.int)) := by rw [upd_ne nl]; exact m25 _ _ h1l
        generalize L2.upd H25 l2 (.lst (ys.map V.int ++ [.int 7])) = H26 at m26 h1' h1l' ⊢
        refine ⟨_, rfl, _, rfl, _, rfl, A, d, B, e, x, o, rfl, ip21.same m26, iv21.same m26, wok, row.same m26, fun r' q3 H27 due'' m27 f27 at3 => ?_⟩
        rw [eS, dw, po.steps, po.start] at due''
        have er := due.one due''
        subst er
        obtain ⟨l3, g1, g2, g3, _⟩ := at3
        refine ⟨_, rfl, _, _, .tup (SqT.of g1) (.cons (.str _) (.cons (.lst (SqL.of g2) (dp_ints _)) .nil)), .tup (SqT.of (m27 _ _ h1')) (.cons (.str _) (.cons (.lst (SqL.of (m27 _ _ h1l')) (dp_ints _)) .nil)), told_shaped ys, told_shaped ys, _, rfl, ?_⟩
        rw [eqv_same (told_shaped ys)]
        exact iteF ⟨_, _, _, rfl, m26.trans m27⟩
    · rintro σ' H22 ⟨v16, v17, v18, rfl, m22⟩
      exact k _
end
end Lw

namespace Lw
open PySem PySem.Spec PyProof.Rows L2 Txs
/-! ### what the top leaves -/
def tupA (K : PySem.W.Frag) (a : Addr) : Bool := match K.lookup a with
  | some ⟨.type c, _, .seq its _, _⟩ => decide (c = "tuple") && decide (its.size = 0)
  | _ => false
theorem tupA_ok {K : PySem.W.Frag} {a : Addr} (h : tupA K a = true) (H : Hp) : RowAt K H a [] := by
  unfold tupA at h
  cases q : K.lookup a with
  | none => rw [q] at h; cases h
  | some o =>
    obtain ⟨oc, od, dt, osl⟩ := o
    rw [q] at h
    cases oc with
    | type c =>
      cases dt with
      | seq its n =>
        obtain ⟨h1, h2⟩ := He.ba (show (decide (c = "tuple") && decide (its.size = 0)) = true from h)
        have h1 := of_decide_eq_true h1
        have h2 := of_decide_eq_true h2
        subst h1
        have e : its.toList = [] := by
          apply List.eq_nil_of_length_eq_zero
          rw [Array.length_toList]; exact h2
        refine ⟨.inr (.inr ⟨_, its, n, q, rfl, rfl, by omega, by rw [e]; exact .nil⟩), _, .kTuple q rfl, kit_tuple⟩
      | _ => cases h
    | _ => cases h
def dp_law_stream : Hd.DefP := ⟨fun K => He.ga K "_law_stream", "_law_stream", "_law_stream", defArgs s_law_stream, defBody s_law_stream, defScope s_law_stream, []⟩
def dp_law_draw : Hd.DefP := ⟨fun K => He.ga K "_law_draw", "_law_draw", "_law_draw", defArgs s_law_draw, defBody s_law_draw, defScope s_law_draw, []⟩
def dp_law_is_integer : Hd.DefP := ⟨fun K => He.ga K "_law_is_integer", "_law_is_integer", "_law_is_integer", defArgs s_law_is_integer, defBody s_law_is_integer, defScope s_law_is_integer, []⟩
def dp_law_integers : Hd.DefP := ⟨fun K => He.ga K "_law_integers", "_law_integers", "_law_integers", defArgs s_law_integers, defBody s_law_integers, defScope s_law_integers, []⟩
def dp_law_names : Hd.DefP := ⟨fun K => He.ga K "_law_names", "_law_names", "_law_names", defArgs s_law_names, defBody s_law_names, defScope s_law_names, []⟩
def dp_law_states : Hd.DefP := ⟨fun K => He.ga K "_law_states", "_law_states", "_law_states", defArgs s_law_states, defBody s_law_states, defScope s_law_states, []⟩
def dp_law_steps : Hd.DefP := ⟨fun K => He.ga K "_law_steps", "_law_steps", "_law_steps", defArgs s_law_steps, defBody s_law_steps, defScope s_law_steps, []⟩
def dp_law_marks : Hd.DefP := ⟨fun K => He.ga K "_law_marks", "_law_marks", "_law_marks", defArgs s_law_marks, defBody s_law_marks, defScope s_law_marks, []⟩
def dp_law_view : Hd.DefP := ⟨fun K => He.ga K "_law_view", "_law_view", "_law_view", defArgs s_law_view, defBody s_law_view, defScope s_law_view, []⟩
def dp_law_closed : Hd.DefP := ⟨fun K => He.ga K "_law_closed", "_law_closed", "_law_closed", defArgs s_law_closed, defBody s_law_closed, defScope s_law_closed, []⟩
def dp_law_onward : Hd.DefP := ⟨fun K => He.ga K "_law_onward", "_law_onward", "_law_onward", defArgs s_law_onward, defBody s_law_onward, defScope s_law_onward, []⟩
def dp_law_is_name : Hd.DefP := ⟨fun K => He.ga K "_law_is_name", "_law_is_name", "_law_is_name", defArgs s_law_is_name, defBody s_law_is_name, defScope s_law_is_name, []⟩
def dp_law_wanted_run : Hd.DefP := ⟨fun K => He.ga K "_law_wanted_run", "_law_wanted_run", "_law_wanted_run", defArgs s_law_wanted_run, defBody s_law_wanted_run, defScope s_law_wanted_run, []⟩
def dp_law_spoilt : Hd.DefP := ⟨fun K => He.ga K "_law_spoilt", "_law_spoilt", "_law_spoilt", defArgs s_law_spoilt, defBody s_law_spoilt, defScope s_law_spoilt, []⟩
def dp_law_due : Hd.DefP := ⟨fun K => He.ga K "_law_due", "_law_due", "_law_due", defArgs s_law_due, defBody s_law_due, defScope s_law_due, []⟩
def dp_law_ask : Hd.DefP := ⟨fun K => He.ga K "_law_ask", "_law_ask", "_law_ask", defArgs s_law_ask, defBody s_law_ask, defScope s_law_ask, []⟩
def dp_law : Hd.DefP := ⟨fun K => He.ga K "law", "law", "law", defArgs s_law, defBody s_law, defScope s_law, []⟩
def dp_is_integer : Hd.DefP := ⟨fun K => He.ga K "is_integer", "is_integer", "is_integer", defArgs s_is_integer, defBody s_is_integer, defScope s_is_integer, []⟩
def dp_is_name : Hd.DefP := ⟨fun K => He.ga K "is_name", "is_name", "is_name", defArgs s_is_name, defBody s_is_name, defScope s_is_name, []⟩
def dp_is_state : Hd.DefP := ⟨fun K => He.ga K "is_state", "is_state", "is_state", defArgs s_is_state, defBody s_is_state, defScope s_is_state, []⟩
def dp_is_row : Hd.DefP := ⟨fun K => He.ga K "is_row", "is_row", "is_row", defArgs s_is_row, defBody s_is_row, defScope s_is_row, []⟩
def dp_is_step : Hd.DefP := ⟨fun K => He.ga K "is_step", "is_step", "is_step", defArgs s_is_step, defBody s_is_step, defScope s_is_step, []⟩
def dp_check_steps : Hd.DefP := ⟨fun K => He.ga K "check_steps", "check_steps", "check_steps", defArgs s_check_steps, defBody s_check_steps, defScope s_check_steps, []⟩
def dp_words_of : Hd.DefP := ⟨fun K => He.ga K "words_of", "words_of", "words_of", defArgs s_words_of, defBody s_words_of, defScope s_words_of, []⟩
def dp_check_marks : Hd.DefP := ⟨fun K => He.ga K "check_marks", "check_marks", "check_marks", defArgs s_check_marks, defBody s_check_marks, defScope s_check_marks, []⟩
def dp_without : Hd.DefP := ⟨fun K => He.ga K "without", "without", "without", defArgs s_without, defBody s_without, defScope s_without, []⟩
def dp_targets_by_state : Hd.DefP := ⟨fun K => He.ga K "targets_by_state", "targets_by_state", "targets_by_state", defArgs s_targets_by_state, defBody s_targets_by_state, defScope s_targets_by_state, []⟩
def dp_states_from : Hd.DefP := ⟨fun K => He.ga K "states_from", "states_from", "states_from", defArgs s_states_from, defBody s_states_from, defScope s_states_from, []⟩
def dp_is_index : Hd.DefP := ⟨fun K => He.ga K "is_index", "is_index", "is_index", defArgs s_is_index, defBody s_is_index, defScope s_is_index, []⟩
def dp_steps_of : Hd.DefP := ⟨fun K => He.ga K "steps_of", "steps_of", "steps_of", defArgs s_steps_of, defBody s_steps_of, defScope s_steps_of, []⟩
def dp_end_of : Hd.DefP := ⟨fun K => He.ga K "end_of", "end_of", "end_of", defArgs s_end_of, defBody s_end_of, defScope s_end_of, []⟩
def dp_sights_of : Hd.DefP := ⟨fun K => He.ga K "sights_of", "sights_of", "sights_of", defArgs s_sights_of, defBody s_sights_of, defScope s_sights_of, []⟩
def dp_wanted_by_sight : Hd.DefP := ⟨fun K => He.ga K "wanted_by_sight", "wanted_by_sight", "wanted_by_sight", defArgs s_wanted_by_sight, defBody s_wanted_by_sight, defScope s_wanted_by_sight, []⟩
def dp_first_ends : Hd.DefP := ⟨fun K => He.ga K "first_ends", "first_ends", "first_ends", defArgs s_first_ends, defBody s_first_ends, defScope s_first_ends, []⟩
def dp_ends_after : Hd.DefP := ⟨fun K => He.ga K "ends_after", "ends_after", "ends_after", defArgs s_ends_after, defBody s_ends_after, defScope s_ends_after, []⟩
def dp_wanted_ends : Hd.DefP := ⟨fun K => He.ga K "wanted_ends", "wanted_ends", "wanted_ends", defArgs s_wanted_ends, defBody s_wanted_ends, defScope s_wanted_ends, []⟩
def dp_check_sights : Hd.DefP := ⟨fun K => He.ga K "check_sights", "check_sights", "check_sights", defArgs s_check_sights, defBody s_check_sights, defScope s_check_sights, []⟩
def dp_check_words : Hd.DefP := ⟨fun K => He.ga K "check_words", "check_words", "check_words", defArgs s_check_words, defBody s_check_words, defScope s_check_words, []⟩
def dp_Plant___init__ : Hd.DefP := ⟨fun K => He.ma K (He.ga K "Plant") "__init__", "__init__", "Plant.__init__", defArgs s_Plant___init__, defBody s_Plant___init__, defScope s_Plant___init__, [.adr (He.dflAt ("Plant", some "__init__") 0)]⟩
def dp_Plant_start : Hd.DefP := ⟨fun K => Hd.gAt K (He.ga K "Plant") "start", "start", "Plant.start", defArgs s_Plant_start, defBody s_Plant_start, defScope s_Plant_start, []⟩
def dp_Plant_steps : Hd.DefP := ⟨fun K => Hd.gAt K (He.ga K "Plant") "steps", "steps", "Plant.steps", defArgs s_Plant_steps, defBody s_Plant_steps, defScope s_Plant_steps, []⟩
def dp_Plant_wanted : Hd.DefP := ⟨fun K => Hd.gAt K (He.ga K "Plant") "wanted", "wanted", "Plant.wanted", defArgs s_Plant_wanted, defBody s_Plant_wanted, defScope s_Plant_wanted, []⟩
def dp_View___init__ : Hd.DefP := ⟨fun K => He.ma K (He.ga K "View") "__init__", "__init__", "View.__init__", defArgs s_View___init__, defBody s_View___init__, defScope s_View___init__, [.non, .adr (He.dflAt ("View", some "__init__") 1)]⟩
def dp_View___eq__ : Hd.DefP := ⟨fun K => He.ma K (He.ga K "View") "__eq__", "__eq__", "View.__eq__", defArgs s_View___eq__, defBody s_View___eq__, defScope s_View___eq__, []⟩
def dp_View_sights : Hd.DefP := ⟨fun K => Hd.gAt K (He.ga K "View") "sights", "sights", "View.sights", defArgs s_View_sights, defBody s_View_sights, defScope s_View_sights, []⟩
def fnL : List Hd.DefP := [dp_law_stream, dp_law_draw, dp_law_is_integer, dp_law_integers, dp_law_names, dp_law_states, dp_law_steps, dp_law_marks, dp_law_view, dp_law_closed, dp_law_onward, dp_law_is_name, dp_law_wanted_run, dp_law_spoilt, dp_law_due, dp_law_ask, dp_law, dp_is_integer, dp_is_name, dp_is_state, dp_is_row, dp_is_step, dp_check_steps, dp_words_of, dp_check_marks, dp_without, dp_targets_by_state, dp_states_from, dp_is_index, dp_steps_of, dp_end_of, dp_sights_of, dp_wanted_by_sight, dp_first_ends, dp_ends_after, dp_wanted_ends, dp_check_sights, dp_check_words, dp_Plant___init__, dp_Plant_start, dp_Plant_steps, dp_Plant_wanted, dp_View___init__, dp_View___eq__, dp_View_sights]
def faL : List He.Fa := [.glo "_law_stream", .glo "_law_draw", .glo "_law_is_integer", .glo "_law_integers", .glo "_law_names", .glo "_law_states", .glo "_law_steps", .glo "_law_marks", .glo "_law_view", .glo "_law_closed", .glo "_law_onward", .glo "_law_is_name", .glo "_law_wanted_run", .glo "_law_spoilt", .glo "_law_due", .glo "_law_ask", .glo "law", .glo "is_integer", .glo "is_name", .glo "is_state", .glo "is_row", .glo "is_step", .glo "check_steps", .glo "words_of", .glo "check_marks", .glo "without", .glo "targets_by_state", .glo "states_from", .glo "is_index", .glo "steps_of", .glo "end_of", .glo "sights_of", .glo "wanted_by_sight", .glo "first_ends", .glo "ends_after", .glo "wanted_ends", .glo "check_sights", .glo "check_words", .glo "Plant", .glo "View", .free "len", .free "min", .free "isinstance", .free "sorted", .free "range", .free "enumerate", .free "zip", .free "all", .free "int", .free "list", .free "tuple", .free "set", .free "str", .free "bool", .free "dict", .free "max", .free "super", .str "LETTERS" "abcdefghijklmnopqrstuvwxyz", .int "LONGEST_NAME" 12, .int "LAST_STATE" 99, .int "MOST_STEPS" 60, .int "MOST_STEPS_OF_STATE" 8, .int "MOST_WORDS" 12, .cls "Plant", .mkr "Plant", .noat "Plant" "start_state", .noat "Plant" "step_list", .noat "Plant" "word_list", .noat "Plant" "wanted_list", .noat "Plant" "barred_list", .noat "Plant" "state_list", .cls "View", .mkr "View", .noat "View" "sight_table", .noat "View" "hold_list", .glo "BadSights", .glo "GuardError", .exm "BadSights" "BadSights" true]
def exL (K : PySem.W.Frag) : Bool := (Hd.propB K (He.ga K "Plant") "start" && (Hd.propB K (He.ga K "Plant") "steps" && (Hd.propB K (He.ga K "Plant") "wanted" && (Hd.propB K (He.ga K "View") "sights" && (tupA K (He.dflAt ("View", some "__init__") 1 K) && (biB K (He.ga K "View") && (ownB K (He.ga K "View") && (ErI.isB K (He.ga K "BadSights") && (decide (PySem.W.kitOne K (.ref (He.ga K "BadSights")) (.ref (He.ga K "GuardError")) = some true) && (Ers.erB K (He.ga K "BadSights") "BadSights.__init__" "/claim/cut.py" "at" && true))))))))))
def de_BadSights : Ers.DefE := ⟨"BadSights", "BadSights.__init__", defArgs s_BadSights___init__, defBody s_BadSights___init__, defScope s_BadSights___init__⟩
def erL : List Ers.DefE := [de_BadSights]
section
variable {P : Program} {w : World} {K : PySem.W.Frag} {h : Heap} {mg : PySem.Str → Option Value}
theorem bt_of (X : K.In h) (G : h.Ns mainGlobals mg) (c : Hd.Says faL exL fnL K) : Bt mg := ⟨He.free_ok X G (c.fact 40 (f := .free "len") rfl), He.free_ok X G (c.fact 41 (f := .free "min") rfl), He.free_ok X G (c.fact 42 (f := .free "isinstance") rfl), He.free_ok X G (c.fact 43 (f := .free "sorted") rfl), He.free_ok X G (c.fact 44 (f := .free "range") rfl), He.free_ok X G (c.fact 45 (f := .free "enumerate") rfl), He.free_ok X G (c.fact 46 (f := .free "zip") rfl), He.free_ok X G (c.fact 47 (f := .free "all") rfl), He.free_ok X G (c.fact 48 (f := .free "int") rfl), He.free_ok X G (c.fact 49 (f := .free "list") rfl), He.free_ok X G (c.fact 50 (f := .free "tuple") rfl), He.free_ok X G (c.fact 51 (f := .free "set") rfl), He.free_ok X G (c.fact 52 (f := .free "str") rfl), He.free_ok X G (c.fact 53 (f := .free "bool") rfl), He.free_ok X G (c.fact 54 (f := .free "dict") rfl), He.free_ok X G (c.fact 55 (f := .free "max") rfl), He.free_ok X G (c.fact 56 (f := .free "super") rfl), let ⟨t, e⟩ := He.str_ok X G (c.fact 57 (f := .str "LETTERS" "abcdefghijklmnopqrstuvwxyz") rfl); ⟨_, e, t, rfl⟩, let ⟨t, e⟩ := He.int_ok X G (c.fact 58 (f := .int "LONGEST_NAME" 12) rfl); ⟨_, e, t, rfl⟩, let ⟨t, e⟩ := He.int_ok X G (c.fact 59 (f := .int "LAST_STATE" 99) rfl); ⟨_, e, t, rfl⟩, let ⟨t, e⟩ := He.int_ok X G (c.fact 60 (f := .int "MOST_STEPS" 60) rfl); ⟨_, e, t, rfl⟩, let ⟨t, e⟩ := He.int_ok X G (c.fact 61 (f := .int "MOST_STEPS_OF_STATE" 8) rfl); ⟨_, e, t, rfl⟩, let ⟨t, e⟩ := He.int_ok X G (c.fact 62 (f := .int "MOST_WORDS" 12) rfl); ⟨_, e, t, rfl⟩⟩
theorem at_law_stream (X : K.In h) (G : h.Ns mainGlobals mg) (c : Hd.Says faL exL fnL K) : At K mg "_law_stream" s_law_stream := ⟨_, let ⟨fd, F⟩ := c.def_ 0 (d := dp_law_stream) rfl; ⟨fd, F, He.glo_ok X G (c.fact 0 (f := .glo "_law_stream") rfl)⟩⟩
theorem at_law_draw (X : K.In h) (G : h.Ns mainGlobals mg) (c : Hd.Says faL exL fnL K) : At K mg "_law_draw" s_law_draw := ⟨_, let ⟨fd, F⟩ := c.def_ 1 (d := dp_law_draw) rfl; ⟨fd, F, He.glo_ok X G (c.fact 1 (f := .glo "_law_draw") rfl)⟩⟩
theorem at_law_is_integer (X : K.In h) (G : h.Ns mainGlobals mg) (c : Hd.Says faL exL fnL K) : At K mg "_law_is_integer" s_law_is_integer := ⟨_, let ⟨fd, F⟩ := c.def_ 2 (d := dp_law_is_integer) rfl; ⟨fd, F, He.glo_ok X G (c.fact 2 (f := .glo "_law_is_integer") rfl)⟩⟩
theorem at_law_integers (X : K.In h) (G : h.Ns mainGlobals mg) (c : Hd.Says faL exL fnL K) : At K mg "_law_integers" s_law_integers := ⟨_, let ⟨fd, F⟩ := c.def_ 3 (d := dp_law_integers) rfl; ⟨fd, F, He.glo_ok X G (c.fact 3 (f := .glo "_law_integers") rfl)⟩⟩
theorem at_law_names (X : K.In h) (G : h.Ns mainGlobals mg) (c : Hd.Says faL exL fnL K) : At K mg "_law_names" s_law_names := ⟨_, let ⟨fd, F⟩ := c.def_ 4 (d := dp_law_names) rfl; ⟨fd, F, He.glo_ok X G (c.fact 4 (f := .glo "_law_names") rfl)⟩⟩
theorem at_law_states (X : K.In h) (G : h.Ns mainGlobals mg) (c : Hd.Says faL exL fnL K) : At K mg "_law_states" s_law_states := ⟨_, let ⟨fd, F⟩ := c.def_ 5 (d := dp_law_states) rfl; ⟨fd, F, He.glo_ok X G (c.fact 5 (f := .glo "_law_states") rfl)⟩⟩
theorem at_law_steps (X : K.In h) (G : h.Ns mainGlobals mg) (c : Hd.Says faL exL fnL K) : At K mg "_law_steps" s_law_steps := ⟨_, let ⟨fd, F⟩ := c.def_ 6 (d := dp_law_steps) rfl; ⟨fd, F, He.glo_ok X G (c.fact 6 (f := .glo "_law_steps") rfl)⟩⟩
theorem at_law_marks (X : K.In h) (G : h.Ns mainGlobals mg) (c : Hd.Says faL exL fnL K) : At K mg "_law_marks" s_law_marks := ⟨_, let ⟨fd, F⟩ := c.def_ 7 (d := dp_law_marks) rfl; ⟨fd, F, He.glo_ok X G (c.fact 7 (f := .glo "_law_marks") rfl)⟩⟩
theorem at_law_view (X : K.In h) (G : h.Ns mainGlobals mg) (c : Hd.Says faL exL fnL K) : At K mg "_law_view" s_law_view := ⟨_, let ⟨fd, F⟩ := c.def_ 8 (d := dp_law_view) rfl; ⟨fd, F, He.glo_ok X G (c.fact 8 (f := .glo "_law_view") rfl)⟩⟩
theorem at_law_closed (X : K.In h) (G : h.Ns mainGlobals mg) (c : Hd.Says faL exL fnL K) : At K mg "_law_closed" s_law_closed := ⟨_, let ⟨fd, F⟩ := c.def_ 9 (d := dp_law_closed) rfl; ⟨fd, F, He.glo_ok X G (c.fact 9 (f := .glo "_law_closed") rfl)⟩⟩
theorem at_law_onward (X : K.In h) (G : h.Ns mainGlobals mg) (c : Hd.Says faL exL fnL K) : At K mg "_law_onward" s_law_onward := ⟨_, let ⟨fd, F⟩ := c.def_ 10 (d := dp_law_onward) rfl; ⟨fd, F, He.glo_ok X G (c.fact 10 (f := .glo "_law_onward") rfl)⟩⟩
theorem at_law_is_name (X : K.In h) (G : h.Ns mainGlobals mg) (c : Hd.Says faL exL fnL K) : At K mg "_law_is_name" s_law_is_name := ⟨_, let ⟨fd, F⟩ := c.def_ 11 (d := dp_law_is_name) rfl; ⟨fd, F, He.glo_ok X G (c.fact 11 (f := .glo "_law_is_name") rfl)⟩⟩
theorem at_law_wanted_run (X : K.In h) (G : h.Ns mainGlobals mg) (c : Hd.Says faL exL fnL K) : At K mg "_law_wanted_run" s_law_wanted_run := ⟨_, let ⟨fd, F⟩ := c.def_ 12 (d := dp_law_wanted_run) rfl; ⟨fd, F, He.glo_ok X G (c.fact 12 (f := .glo "_law_wanted_run") rfl)⟩⟩
theorem at_law_spoilt (X : K.In h) (G : h.Ns mainGlobals mg) (c : Hd.Says faL exL fnL K) : At K mg "_law_spoilt" s_law_spoilt := ⟨_, let ⟨fd, F⟩ := c.def_ 13 (d := dp_law_spoilt) rfl; ⟨fd, F, He.glo_ok X G (c.fact 13 (f := .glo "_law_spoilt") rfl)⟩⟩
theorem at_law_due (X : K.In h) (G : h.Ns mainGlobals mg) (c : Hd.Says faL exL fnL K) : At K mg "_law_due" s_law_due := ⟨_, let ⟨fd, F⟩ := c.def_ 14 (d := dp_law_due) rfl; ⟨fd, F, He.glo_ok X G (c.fact 14 (f := .glo "_law_due") rfl)⟩⟩
theorem at_law_ask (X : K.In h) (G : h.Ns mainGlobals mg) (c : Hd.Says faL exL fnL K) : At K mg "_law_ask" s_law_ask := ⟨_, let ⟨fd, F⟩ := c.def_ 15 (d := dp_law_ask) rfl; ⟨fd, F, He.glo_ok X G (c.fact 15 (f := .glo "_law_ask") rfl)⟩⟩
theorem at_law (X : K.In h) (G : h.Ns mainGlobals mg) (c : Hd.Says faL exL fnL K) : At K mg "law" s_law := ⟨_, let ⟨fd, F⟩ := c.def_ 16 (d := dp_law) rfl; ⟨fd, F, He.glo_ok X G (c.fact 16 (f := .glo "law") rfl)⟩⟩
theorem at_is_integer (X : K.In h) (G : h.Ns mainGlobals mg) (c : Hd.Says faL exL fnL K) : At K mg "is_integer" s_is_integer := ⟨_, let ⟨fd, F⟩ := c.def_ 17 (d := dp_is_integer) rfl; ⟨fd, F, He.glo_ok X G (c.fact 17 (f := .glo "is_integer") rfl)⟩⟩
theorem at_is_name (X : K.In h) (G : h.Ns mainGlobals mg) (c : Hd.Says faL exL fnL K) : At K mg "is_name" s_is_name := ⟨_, let ⟨fd, F⟩ := c.def_ 18 (d := dp_is_name) rfl; ⟨fd, F, He.glo_ok X G (c.fact 18 (f := .glo "is_name") rfl)⟩⟩
theorem at_is_state (X : K.In h) (G : h.Ns mainGlobals mg) (c : Hd.Says faL exL fnL K) : At K mg "is_state" s_is_state := ⟨_, let ⟨fd, F⟩ := c.def_ 19 (d := dp_is_state) rfl; ⟨fd, F, He.glo_ok X G (c.fact 19 (f := .glo "is_state") rfl)⟩⟩
theorem at_is_row (X : K.In h) (G : h.Ns mainGlobals mg) (c : Hd.Says faL exL fnL K) : At K mg "is_row" s_is_row := ⟨_, let ⟨fd, F⟩ := c.def_ 20 (d := dp_is_row) rfl; ⟨fd, F, He.glo_ok X G (c.fact 20 (f := .glo "is_row") rfl)⟩⟩
theorem at_is_step (X : K.In h) (G : h.Ns mainGlobals mg) (c : Hd.Says faL exL fnL K) : At K mg "is_step" s_is_step := ⟨_, let ⟨fd, F⟩ := c.def_ 21 (d := dp_is_step) rfl; ⟨fd, F, He.glo_ok X G (c.fact 21 (f := .glo "is_step") rfl)⟩⟩
theorem at_check_steps (X : K.In h) (G : h.Ns mainGlobals mg) (c : Hd.Says faL exL fnL K) : At K mg "check_steps" s_check_steps := ⟨_, let ⟨fd, F⟩ := c.def_ 22 (d := dp_check_steps) rfl; ⟨fd, F, He.glo_ok X G (c.fact 22 (f := .glo "check_steps") rfl)⟩⟩
theorem at_words_of (X : K.In h) (G : h.Ns mainGlobals mg) (c : Hd.Says faL exL fnL K) : At K mg "words_of" s_words_of := ⟨_, let ⟨fd, F⟩ := c.def_ 23 (d := dp_words_of) rfl; ⟨fd, F, He.glo_ok X G (c.fact 23 (f := .glo "words_of") rfl)⟩⟩
theorem at_check_marks (X : K.In h) (G : h.Ns mainGlobals mg) (c : Hd.Says faL exL fnL K) : At K mg "check_marks" s_check_marks := ⟨_, let ⟨fd, F⟩ := c.def_ 24 (d := dp_check_marks) rfl; ⟨fd, F, He.glo_ok X G (c.fact 24 (f := .glo "check_marks") rfl)⟩⟩
theorem at_without (X : K.In h) (G : h.Ns mainGlobals mg) (c : Hd.Says faL exL fnL K) : At K mg "without" s_without := ⟨_, let ⟨fd, F⟩ := c.def_ 25 (d := dp_without) rfl; ⟨fd, F, He.glo_ok X G (c.fact 25 (f := .glo "without") rfl)⟩⟩
theorem at_targets_by_state (X : K.In h) (G : h.Ns mainGlobals mg) (c : Hd.Says faL exL fnL K) : At K mg "targets_by_state" s_targets_by_state := ⟨_, let ⟨fd, F⟩ := c.def_ 26 (d := dp_targets_by_state) rfl; ⟨fd, F, He.glo_ok X G (c.fact 26 (f := .glo "targets_by_state") rfl)⟩⟩
theorem at_states_from (X : K.In h) (G : h.Ns mainGlobals mg) (c : Hd.Says faL exL fnL K) : At K mg "states_from" s_states_from := ⟨_, let ⟨fd, F⟩ := c.def_ 27 (d := dp_states_from) rfl; ⟨fd, F, He.glo_ok X G (c.fact 27 (f := .glo "states_from") rfl)⟩⟩
theorem at_is_index (X : K.In h) (G : h.Ns mainGlobals mg) (c : Hd.Says faL exL fnL K) : At K mg "is_index" s_is_index := ⟨_, let ⟨fd, F⟩ := c.def_ 28 (d := dp_is_index) rfl; ⟨fd, F, He.glo_ok X G (c.fact 28 (f := .glo "is_index") rfl)⟩⟩
theorem at_steps_of (X : K.In h) (G : h.Ns mainGlobals mg) (c : Hd.Says faL exL fnL K) : At K mg "steps_of" s_steps_of := ⟨_, let ⟨fd, F⟩ := c.def_ 29 (d := dp_steps_of) rfl; ⟨fd, F, He.glo_ok X G (c.fact 29 (f := .glo "steps_of") rfl)⟩⟩
theorem at_end_of (X : K.In h) (G : h.Ns mainGlobals mg) (c : Hd.Says faL exL fnL K) : At K mg "end_of" s_end_of := ⟨_, let ⟨fd, F⟩ := c.def_ 30 (d := dp_end_of) rfl; ⟨fd, F, He.glo_ok X G (c.fact 30 (f := .glo "end_of") rfl)⟩⟩
theorem at_sights_of (X : K.In h) (G : h.Ns mainGlobals mg) (c : Hd.Says faL exL fnL K) : At K mg "sights_of" s_sights_of := ⟨_, let ⟨fd, F⟩ := c.def_ 31 (d := dp_sights_of) rfl; ⟨fd, F, He.glo_ok X G (c.fact 31 (f := .glo "sights_of") rfl)⟩⟩
theorem at_wanted_by_sight (X : K.In h) (G : h.Ns mainGlobals mg) (c : Hd.Says faL exL fnL K) : At K mg "wanted_by_sight" s_wanted_by_sight := ⟨_, let ⟨fd, F⟩ := c.def_ 32 (d := dp_wanted_by_sight) rfl; ⟨fd, F, He.glo_ok X G (c.fact 32 (f := .glo "wanted_by_sight") rfl)⟩⟩
theorem at_first_ends (X : K.In h) (G : h.Ns mainGlobals mg) (c : Hd.Says faL exL fnL K) : At K mg "first_ends" s_first_ends := ⟨_, let ⟨fd, F⟩ := c.def_ 33 (d := dp_first_ends) rfl; ⟨fd, F, He.glo_ok X G (c.fact 33 (f := .glo "first_ends") rfl)⟩⟩
theorem at_ends_after (X : K.In h) (G : h.Ns mainGlobals mg) (c : Hd.Says faL exL fnL K) : At K mg "ends_after" s_ends_after := ⟨_, let ⟨fd, F⟩ := c.def_ 34 (d := dp_ends_after) rfl; ⟨fd, F, He.glo_ok X G (c.fact 34 (f := .glo "ends_after") rfl)⟩⟩
theorem at_wanted_ends (X : K.In h) (G : h.Ns mainGlobals mg) (c : Hd.Says faL exL fnL K) : At K mg "wanted_ends" s_wanted_ends := ⟨_, let ⟨fd, F⟩ := c.def_ 35 (d := dp_wanted_ends) rfl; ⟨fd, F, He.glo_ok X G (c.fact 35 (f := .glo "wanted_ends") rfl)⟩⟩
theorem at_check_sights (X : K.In h) (G : h.Ns mainGlobals mg) (c : Hd.Says faL exL fnL K) : At K mg "check_sights" s_check_sights := ⟨_, let ⟨fd, F⟩ := c.def_ 36 (d := dp_check_sights) rfl; ⟨fd, F, He.glo_ok X G (c.fact 36 (f := .glo "check_sights") rfl)⟩⟩
theorem at_check_words (X : K.In h) (G : h.Ns mainGlobals mg) (c : Hd.Says faL exL fnL K) : At K mg "check_words" s_check_words := ⟨_, let ⟨fd, F⟩ := c.def_ 37 (d := dp_check_words) rfl; ⟨fd, F, He.glo_ok X G (c.fact 37 (f := .glo "check_words") rfl)⟩⟩
theorem cls_Plant (c : Hd.Says faL exL fnL K) : Cls K (He.ga K "Plant") := He.cls_ok (c.fact 63 (f := .cls "Plant") rfl)
theorem gl_Plant (X : K.In h) (G : h.Ns mainGlobals mg) (c : Hd.Says faL exL fnL K) : mg "Plant" = some (.ref (He.ga K "Plant")) := He.glo_ok X G (c.fact 38 (f := .glo "Plant") rfl)
theorem mkr_Plant (c : Hd.Says faL exL fnL K) : Mk K (He.ga K "Plant") (He.ma K (He.ga K "Plant") "__init__") := He.mkr_ok (c.fact 64 (f := .mkr "Plant") rfl)
theorem no_Plant_start_state (c : Hd.Says faL exL fnL K) : NoAttr K (He.ga K "Plant") "start_state" := He.noat_ok (c.fact 65 (f := .noat "Plant" "start_state") rfl)
theorem no_Plant_step_list (c : Hd.Says faL exL fnL K) : NoAttr K (He.ga K "Plant") "step_list" := He.noat_ok (c.fact 66 (f := .noat "Plant" "step_list") rfl)
theorem no_Plant_word_list (c : Hd.Says faL exL fnL K) : NoAttr K (He.ga K "Plant") "word_list" := He.noat_ok (c.fact 67 (f := .noat "Plant" "word_list") rfl)
theorem no_Plant_wanted_list (c : Hd.Says faL exL fnL K) : NoAttr K (He.ga K "Plant") "wanted_list" := He.noat_ok (c.fact 68 (f := .noat "Plant" "wanted_list") rfl)
theorem no_Plant_barred_list (c : Hd.Says faL exL fnL K) : NoAttr K (He.ga K "Plant") "barred_list" := He.noat_ok (c.fact 69 (f := .noat "Plant" "barred_list") rfl)
theorem no_Plant_state_list (c : Hd.Says faL exL fnL K) : NoAttr K (He.ga K "Plant") "state_list" := He.noat_ok (c.fact 70 (f := .noat "Plant" "state_list") rfl)
theorem cls_View (c : Hd.Says faL exL fnL K) : Cls K (He.ga K "View") := He.cls_ok (c.fact 71 (f := .cls "View") rfl)
theorem gl_View (X : K.In h) (G : h.Ns mainGlobals mg) (c : Hd.Says faL exL fnL K) : mg "View" = some (.ref (He.ga K "View")) := He.glo_ok X G (c.fact 39 (f := .glo "View") rfl)
theorem mkr_View (c : Hd.Says faL exL fnL K) : Mk K (He.ga K "View") (He.ma K (He.ga K "View") "__init__") := He.mkr_ok (c.fact 72 (f := .mkr "View") rfl)
theorem no_View_sight_table (c : Hd.Says faL exL fnL K) : NoAttr K (He.ga K "View") "sight_table" := He.noat_ok (c.fact 73 (f := .noat "View" "sight_table") rfl)
theorem no_View_hold_list (c : Hd.Says faL exL fnL K) : NoAttr K (He.ga K "View") "hold_list" := He.noat_ok (c.fact 74 (f := .noat "View" "hold_list") rfl)
theorem pr_Plant_start (c : Hd.Says faL exL fnL K) : PropOf K (He.ga K "Plant") "start" (Hd.pAt K (He.ga K "Plant") "start") (Hd.gAt K (He.ga K "Plant") "start") := Hd.propB_ok (He.ba c.all.2.1).1
theorem pr_Plant_steps (c : Hd.Says faL exL fnL K) : PropOf K (He.ga K "Plant") "steps" (Hd.pAt K (He.ga K "Plant") "steps") (Hd.gAt K (He.ga K "Plant") "steps") := Hd.propB_ok (He.ba (He.ba c.all.2.1).2).1
theorem pr_Plant_wanted (c : Hd.Says faL exL fnL K) : PropOf K (He.ga K "Plant") "wanted" (Hd.pAt K (He.ga K "Plant") "wanted") (Hd.gAt K (He.ga K "Plant") "wanted") := Hd.propB_ok (He.ba (He.ba (He.ba c.all.2.1).2).2).1
theorem pr_View_sights (c : Hd.Says faL exL fnL K) : PropOf K (He.ga K "View") "sights" (Hd.pAt K (He.ga K "View") "sights") (Hd.gAt K (He.ga K "View") "sights") := Hd.propB_ok (He.ba (He.ba (He.ba (He.ba c.all.2.1).2).2).2).1
theorem gl_BadSights (X : K.In h) (G : h.Ns mainGlobals mg) (c : Hd.Says faL exL fnL K) : mg "BadSights" = some (.ref (He.ga K "BadSights")) := He.glo_ok X G (c.fact 75 (f := .glo "BadSights") rfl)
theorem gl_GuardError (X : K.In h) (G : h.Ns mainGlobals mg) (c : Hd.Says faL exL fnL K) : mg "GuardError" = some (.ref (He.ga K "GuardError")) := He.glo_ok X G (c.fact 76 (f := .glo "GuardError") rfl)
theorem exm_BadSights_BadSights (c : Hd.Says faL exL fnL K) : PySem.W.exmOne K (.ref (He.ga K "BadSights")) (.ref (He.ga K "BadSights")) = some true := of_decide_eq_true (c.fact 77 (f := .exm "BadSights" "BadSights" true) rfl)
theorem ex_0 (c : Hd.Says faL exL fnL K) : (tupA K (He.dflAt ("View", some "__init__") 1 K)) = true := (He.ba (He.ba (He.ba (He.ba (He.ba c.all.2.1).2).2).2).2).1
theorem ex_1 (c : Hd.Says faL exL fnL K) : (biB K (He.ga K "View")) = true := (He.ba (He.ba (He.ba (He.ba (He.ba (He.ba c.all.2.1).2).2).2).2).2).1
theorem ex_2 (c : Hd.Says faL exL fnL K) : (ownB K (He.ga K "View")) = true := (He.ba (He.ba (He.ba (He.ba (He.ba (He.ba (He.ba c.all.2.1).2).2).2).2).2).2).1
theorem ex_3 (c : Hd.Says faL exL fnL K) : (ErI.isB K (He.ga K "BadSights")) = true := (He.ba (He.ba (He.ba (He.ba (He.ba (He.ba (He.ba (He.ba c.all.2.1).2).2).2).2).2).2).2).1
theorem ex_4 (c : Hd.Says faL exL fnL K) : (decide (PySem.W.kitOne K (.ref (He.ga K "BadSights")) (.ref (He.ga K "GuardError")) = some true)) = true := (He.ba (He.ba (He.ba (He.ba (He.ba (He.ba (He.ba (He.ba (He.ba c.all.2.1).2).2).2).2).2).2).2).2).1
theorem ex_5 (c : Hd.Says faL exL fnL K) : (Ers.erB K (He.ga K "BadSights") "BadSights.__init__" "/claim/cut.py" "at") = true := (He.ba (He.ba (He.ba (He.ba (He.ba (He.ba (He.ba (He.ba (He.ba (He.ba c.all.2.1).2).2).2).2).2).2).2).2).2).1
theorem def_Plant___init__ (c : Hd.Says faL exL fnL K) : ∃ fd, FunD K "__init__" "Plant.__init__" (defArgs s_Plant___init__) (defBody s_Plant___init__) (defScope s_Plant___init__) [He.Dv.v K (.adr (He.dflAt ("Plant", some "__init__") 0))] [] (He.ma K (He.ga K "Plant") "__init__") fd := c.def_ 38 (d := dp_Plant___init__) rfl
theorem def_Plant_start (c : Hd.Says faL exL fnL K) : ∃ fd, FunD K "start" "Plant.start" (defArgs s_Plant_start) (defBody s_Plant_start) (defScope s_Plant_start) [] [] (Hd.gAt K (He.ga K "Plant") "start") fd := c.def_ 39 (d := dp_Plant_start) rfl
theorem prop_Plant_start {P : Program} {w : World} {base : Heap} {sp : Sp} (c : Hd.Says faL exL fnL K) (ok : ∀ {f : Addr} {fd : FuncData}, FunD K "start" "Plant.start" (defArgs s_Plant_start) (defBody s_Plant_start) (defScope s_Plant_start) [] [] f fd → FnOk P w K mg base CX0 1 f fd ["self"] sp) : Pr P w K mg base 1 (He.ga K "Plant") "start" sp := let ⟨fd, F⟩ := def_Plant_start c; ⟨⟨_, _, fd, _, pr_Plant_start c, cls_Plant c, ok F, FunD.bindsN (ps := ["self"]) F (fun _ _ _ _ _ _ us hl => match us, hl with | [_], _ => rfl)⟩⟩
theorem def_Plant_steps (c : Hd.Says faL exL fnL K) : ∃ fd, FunD K "steps" "Plant.steps" (defArgs s_Plant_steps) (defBody s_Plant_steps) (defScope s_Plant_steps) [] [] (Hd.gAt K (He.ga K "Plant") "steps") fd := c.def_ 40 (d := dp_Plant_steps) rfl
theorem prop_Plant_steps {P : Program} {w : World} {base : Heap} {sp : Sp} (c : Hd.Says faL exL fnL K) (ok : ∀ {f : Addr} {fd : FuncData}, FunD K "steps" "Plant.steps" (defArgs s_Plant_steps) (defBody s_Plant_steps) (defScope s_Plant_steps) [] [] f fd → FnOk P w K mg base CX0 1 f fd ["self"] sp) : Pr P w K mg base 1 (He.ga K "Plant") "steps" sp := let ⟨fd, F⟩ := def_Plant_steps c; ⟨⟨_, _, fd, _, pr_Plant_steps c, cls_Plant c, ok F, FunD.bindsN (ps := ["self"]) F (fun _ _ _ _ _ _ us hl => match us, hl with | [_], _ => rfl)⟩⟩
theorem def_Plant_wanted (c : Hd.Says faL exL fnL K) : ∃ fd, FunD K "wanted" "Plant.wanted" (defArgs s_Plant_wanted) (defBody s_Plant_wanted) (defScope s_Plant_wanted) [] [] (Hd.gAt K (He.ga K "Plant") "wanted") fd := c.def_ 41 (d := dp_Plant_wanted) rfl
theorem prop_Plant_wanted {P : Program} {w : World} {base : Heap} {sp : Sp} (c : Hd.Says faL exL fnL K) (ok : ∀ {f : Addr} {fd : FuncData}, FunD K "wanted" "Plant.wanted" (defArgs s_Plant_wanted) (defBody s_Plant_wanted) (defScope s_Plant_wanted) [] [] f fd → FnOk P w K mg base CX0 1 f fd ["self"] sp) : Pr P w K mg base 1 (He.ga K "Plant") "wanted" sp := let ⟨fd, F⟩ := def_Plant_wanted c; ⟨⟨_, _, fd, _, pr_Plant_wanted c, cls_Plant c, ok F, FunD.bindsN (ps := ["self"]) F (fun _ _ _ _ _ _ us hl => match us, hl with | [_], _ => rfl)⟩⟩
theorem def_View___init__ (c : Hd.Says faL exL fnL K) : ∃ fd, FunD K "__init__" "View.__init__" (defArgs s_View___init__) (defBody s_View___init__) (defScope s_View___init__) [He.Dv.v K (.non), He.Dv.v K (.adr (He.dflAt ("View", some "__init__") 1))] [] (He.ma K (He.ga K "View") "__init__") fd := c.def_ 42 (d := dp_View___init__) rfl
theorem def_View___eq__ (c : Hd.Says faL exL fnL K) : ∃ fd, FunD K "__eq__" "View.__eq__" (defArgs s_View___eq__) (defBody s_View___eq__) (defScope s_View___eq__) [] [] (He.ma K (He.ga K "View") "__eq__") fd := c.def_ 43 (d := dp_View___eq__) rfl
theorem def_View_sights (c : Hd.Says faL exL fnL K) : ∃ fd, FunD K "sights" "View.sights" (defArgs s_View_sights) (defBody s_View_sights) (defScope s_View_sights) [] [] (Hd.gAt K (He.ga K "View") "sights") fd := c.def_ 44 (d := dp_View_sights) rfl
theorem prop_View_sights {P : Program} {w : World} {base : Heap} {sp : Sp} (c : Hd.Says faL exL fnL K) (ok : ∀ {f : Addr} {fd : FuncData}, FunD K "sights" "View.sights" (defArgs s_View_sights) (defBody s_View_sights) (defScope s_View_sights) [] [] f fd → FnOk P w K mg base CX0 1 f fd ["self"] sp) : Pr P w K mg base 1 (He.ga K "View") "sights" sp := let ⟨fd, F⟩ := def_View_sights c; ⟨⟨_, _, fd, _, pr_View_sights c, cls_View c, ok F, FunD.bindsN (ps := ["self"]) F (fun _ _ _ _ _ _ us hl => match us, hl with | [_], _ => rfl)⟩⟩
theorem er_BadSights {base : Heap} (X : K.In h) (G : h.Ns mainGlobals mg) (ce : Ers.SaysE faL exL fnL erL K) (pf : ((P.main.file : PySem.Str) == "/claim/cut.py") = true) (pt : (P.main.scope.names.lookup ("super" : PySem.Str)).isSome = false) : Ers.Er P w K mg base "BadSights" (He.ga K "BadSights") "at" (MkT.small) := by
  have k := Ers.erB_ok (P := P) (mg := mg) (ex_5 ce.fst) (bt_of X G ce.fst).b_super pf pt
  obtain ⟨fd, D, dn⟩ := Ers.errD_of (d := de_BadSights) (file := "/claim/cut.py") rfl (ce.err 0) k.clo
  have S : SupE.ErrS "self" "at" (defScope s_BadSights___init__) (defArgs s_BadSights___init__) := ⟨rfl, rfl, rfl, by decide +kernel, rfl, rfl, rfl, rfl, by decide +kernel, ⟨_, rfl, rfl⟩⟩
  exact ⟨k.T, k.X, k.no, gl_BadSights X G ce.fst, _, fd, ["self", "at"], k.iC, k.tI, SupE.ok_sup D k.cc S rfl k.no ⟨by decide +kernel, by decide +kernel⟩ ⟨by decide +kernel, by decide +kernel⟩ _ (fun _ => rfl) (fun _ => rfl) (fun _ => rfl) (fun _ => rfl) (fun _ _ _ _ _ _ => ⟨_, MkT.pe_says (by decide +kernel) (pv 1), fun _ _ _ _ hx h => MkT.says_ok (by decide +kernel) hx (fun _ q => ⟨_, rfl, q⟩) h⟩), Ers.binds_of D dn fun _ _ _ _ _ _ _ us hl => match us, hl with | [_, _], _ => rfl⟩
end

section
variable {P : Program} {w : World} {K : PySem.W.Frag} {h base : Heap} {mg : PySem.Str → Option Value}
theorem plc (c : Hd.Says faL exL fnL K) : PlC K (He.ga K "Plant") := ⟨cls_Plant c, no_Plant_start_state c, no_Plant_step_list c, no_Plant_word_list c, no_Plant_wanted_list c, no_Plant_barred_list c, no_Plant_state_list c⟩
theorem vwc (c : Hd.Says faL exL fnL K) : VwC K (He.ga K "View") := ⟨cls_View c, no_View_sight_table c, no_View_hold_list c⟩
theorem facts {f : Addr} (pf : ((P.main.file : PySem.Str) == "/claim/cut.py") = true) (pt : (P.main.scope.names.lookup ("super" : PySem.Str)).isSome = false) (X : K.In h) (G : h.Ns mainGlobals mg) (hfa : mg ("law" : PySem.Str) = some (.ref f)) (ce : Ers.SaysE faL exL fnL erL K) :
    ∃ fd : FuncData, (∀ (s : Shared) (v : Value), BindsTo s fd ⟨[v], []⟩ [("_law_script", v)]) ∧ ∀ base : Heap, K.In base → base.Ns mainGlobals mg → FnOk P w K mg base CX0 8 f fd ["_law_script"] (spLaw K) := by
  have c := ce.fst
  have T := bt_of X G c
  have pc := plc c
  have vc := vwc c
  obtain ⟨⟨f', fd, F, g⟩⟩ := at_law X G c
  have e := hfa.symm.trans g
  cases e
  have b := FunD.bindsA (ps := ["_law_script"]) F (fun _ _ _ _ _ _ us hl => match us, hl with | [_], _ => rfl)
  refine ⟨fd, fun s v => b s [v] rfl, fun base _ _ => ?_⟩
  have c_is_integer : Cl P w K mg base 1 "is_integer" (spIsInt K) [] := cl_is_integer T (at_is_integer X G c)
  have c_is_name : Cl P w K mg base 1 "is_name" (spIsName K) [] := cl_is_name T (at_is_name X G c)
  have c_is_state : Cl P w K mg base 2 "is_state" (spIsState K) [] := cl_is_state T c_is_integer (at_is_state X G c)
  have c_is_row : Cl P w K mg base 1 "is_row" (spIsRow K) [] := cl_is_row T (at_is_row X G c)
  have c_is_step : Cl P w K mg base 3 "is_step" spIsStep [] := cl_is_step T c_is_state c_is_name (at_is_step X G c)
  have c_check_steps : Cl P w K mg base 4 "check_steps" (spCheckSteps K) [] := cl_check_steps T c_is_row c_is_step (at_check_steps X G c)
  have c_words_of : Cl P w K mg base 1 "words_of" (spWordsOf K) [] := cl_words_of T (at_words_of X G c)
  have c_check_marks : Cl P w K mg base 2 "check_marks" (spCheckMarks K) [] := cl_check_marks T c_is_row c_is_integer (at_check_marks X G c)
  have c_without : Cl P w K mg base 1 "without" (spWithout K) [] := cl_without T (at_without X G c)
  have c_states_from : Cl P w K mg base 2 "states_from" (spStatesFrom K) [] := cl_states_from T (cl_targets_by_state T (at_targets_by_state X G c)) (at_states_from X G c)
  have c_check_sights : Cl P w K mg base 2 "check_sights" (spCheckSights K) [] := cl_check_sights T c_is_name (at_check_sights X G c)
  have c_check_words : Cl P w K mg base 2 "check_words" (spCheckWords K) [] := cl_check_words T c_is_row c_is_name (at_check_words X G c)
  have c_law_stream : Cl P w K mg base 1 "_law_stream" (spStream K) [] := cl_stream T (at_law_stream X G c)
  have c_law_draw : Cl P w K mg base 1 "_law_draw" spDraw [] := cl_draw T (at_law_draw X G c)
  have c_law_is_integer : Cl P w K mg base 1 "_law_is_integer" (spIsInt K) [] := cl__law_is_integer T (at_law_is_integer X G c)
  have c_law_integers : Cl P w K mg base 2 "_law_integers" spIntegers [] := cl_integers T c_law_is_integer (at_law_integers X G c)
  have c_law_names := cl_names T c_law_draw (at_law_names X G c)
  have c_law_states := cl_states T c_law_draw (at_law_states X G c)
  have c_law_steps := cl_steps T c_law_draw (at_law_steps X G c)
  have c_law_marks := cl_marks T c_law_draw (at_law_marks X G c)
  have c_law_view := cl_lview T c_law_draw (at_law_view X G c)
  have p_start : Pr P w K mg base 1 (He.ga K "Plant") "start" (spPlStart (He.ga K "Plant")) := prop_Plant_start c (fun F => ok_pl_start pc F)
  have p_steps : Pr P w K mg base 1 (He.ga K "Plant") "steps" (spPlSteps (He.ga K "Plant")) := prop_Plant_steps c (fun F => ok_pl_steps T pc F)
  have p_wanted : Pr P w K mg base 1 (He.ga K "Plant") "wanted" (spPl_wanted (He.ga K "Plant")) := prop_Plant_wanted c (fun F => ok_pl_wanted T pc F)
  have p_sights : Pr P w K mg base 1 (He.ga K "View") "sights" (spVwSights (He.ga K "View")) := prop_View_sights c (fun F => ok_vw_sights T vc F)
  have c_wanted_by_sight : Cl P w K mg base 3 "wanted_by_sight" (spBySight P w (He.ga K "Plant") (He.ga K "View")) [] := cl_wanted_by_sight T p_steps p_wanted p_sights (at_wanted_by_sight X G c)
  have c_first_ends : Cl P w K mg base 3 "first_ends" (spFirst P w (He.ga K "Plant")) [] := cl_first_ends T p_start c_states_from (at_first_ends X G c)
  have c_ends_after : Cl P w K mg base 3 "ends_after" (spAfter P w) [] := cl_ends_after T c_states_from (at_ends_after X G c)
  have eS : Ers.Er P w K mg base "BadSights" (He.ga K "BadSights") "at" MkT.small := er_BadSights X G ce pf pt
  obtain ⟨⟨f1, fd1, F1, g1⟩⟩ := at_wanted_ends X G c
  have xw : Ers.Clx P w K mg base 5 "wanted_ends" (spWEndsR K (He.ga K "Plant") (He.ga K "View") (He.ga K "BadSights")) [] := ⟨⟨f1, fd1, _, [], ok_wanted_endsR T c_is_row c_is_name c_wanted_by_sight c_first_ends c_ends_after eS F1, g1, F1.kp, FunD.bindsN (ps := ["plant", "view", "sights"]) F1 (fun _ _ _ _ _ _ us hl => match us, hl with | [_, _, _], _ => rfl), .nil⟩⟩
  obtain ⟨fi, Fi⟩ := def_Plant___init__ c
  have oi := ok_plant (P := P) (w := w) (mg := mg) (base := base) T pc c_is_state c_check_steps c_words_of c_check_marks c_without c_states_from Fi
  obtain ⟨d5, v5, b5⟩ := Fi.binds1 (ps := ["self", "start", "steps", "wanted", "barred"]) 5 1 (fun z => nomatch z) rfl fun _ _ _ _ _ _ _ us its hl hi => match us, its, hl, hi with | [_, _, _, _, _], [_], _, _ => ⟨_, rfl, rfl⟩
  have k5 : Mr P w K mg base 5 "Plant" (He.ga K "Plant") (spPlant K (He.ga K "Plant")) [] := ⟨⟨_, fi, _, d5, mkr_Plant c, oi, gl_Plant X G c, b5, v5⟩⟩
  obtain ⟨vi, Vi⟩ := def_View___init__ c
  have ov := ok_view (P := P) (w := w) (mg := mg) (base := base) T vc c_check_sights c_check_words Vi
  obtain ⟨d2, v2, b2⟩ := Vi.binds1 (ps := ["self", "sights", "holds"]) 3 2 (fun z => nomatch z) rfl fun _ _ _ _ _ _ _ us its hl hi => match us, its, hl, hi with | [_, _, _], [_, _], _, _ => ⟨_, rfl, rfl⟩
  have k2 : Mr P w K mg base 3 "View" (He.ga K "View") (spView K (He.ga K "View")) [] := ⟨⟨_, vi, _, d2, mkr_View c, ov, gl_View X G c, b2, v2⟩⟩
  have bi : Bi K (He.ga K "View") := bi_ok (ex_1 c)
  obtain ⟨d0, v0, b0⟩ := Vi.binds1 (ps := ["self", "sights", "holds"]) 1 0 (fun z => nomatch z) rfl fun _ _ _ _ _ _ _ us its hl hi => match us, its, hl, hi with | [_], [_, _], _, _ => ⟨_, rfl, rfl⟩
  have k0 : Mr P w K mg base 3 "View" (He.ga K "View") (spView K (He.ga K "View")) [.non, .ref (He.dflAt ("View", some "__init__") 1 K)] := ⟨⟨_, vi, _, d0, mkr_View c, ov, gl_View X G c, b0, v0⟩⟩
  have c_is_index := cl_is_index T c_is_integer (at_is_index X G c)
  have c_steps_of : Cl P w K mg base 3 "steps_of" (spStepsOf (He.ga K "Plant")) [] := cl_steps_of T c_is_index p_start p_steps (at_steps_of X G c)
  have c_end_of : Cl P w K mg base 4 "end_of" (spEndOf (He.ga K "Plant")) [] := cl_end_of T c_steps_of p_start (at_end_of X G c)
  have c_sights_of : Cl P w K mg base 4 "sights_of" (spSightsOf (He.ga K "Plant") (He.ga K "View")) [] := cl_sights_of T c_steps_of p_sights (at_sights_of X G c)
  have c_law_is_name : Cl P w K mg base 1 "_law_is_name" (spNameM K) [] := cl_lname T (at_law_is_name X G c)
  have c_law_closed : Cl P w K mg base 1 "_law_closed" (spClosed K) [] := cl_closed T (at_law_closed X G c)
  have c_law_onward : Cl P w K mg base 2 "_law_onward" spOnward [] := cl_onward T c_law_closed (at_law_onward X G c)
  have c_law_wanted_run : Cl P w K mg base 2 "_law_wanted_run" (spWRun K) [] := cl_wrun T c_law_stream c_law_draw (at_law_wanted_run X G c)
  have c_law_spoilt : Cl P w K mg base 5 "_law_spoilt" (spSpoilt K (He.ga K "View")) [] := cl_spoilt T bi vc.cl c_law_draw k0 (tupA_ok (ex_0 c)) (at_law_spoilt X G c)
  have c_law_due : Cl P w K mg base 3 "_law_due" (spDue13 K) [] := cl_due13 T c_law_is_name c_law_closed c_law_onward (at_law_due X G c)
  have ksg := of_decide_eq_true (ex_4 c)
  have c_law_ask : Cl P w K mg base 6 "_law_ask" (spAsk13 K (He.ga K "Plant") (He.ga K "View")) [] := cl_ask13 T eS (ErI.isB_ok (ex_3 c)) (exm_BadSights_BadSights c) (gl_GuardError X G c) ksg (cs_isint T (at_law_is_integer X G c)) xw (at_law_ask X G c)
  exact ok_law T pc vc bi c_law_stream c_law_draw c_law_states c_law_names c_law_steps c_law_marks c_law_view c_law_wanted_run c_law_spoilt c_law_due c_law_ask c_law_integers c_sights_of c_end_of xw k5 k2 F
end
end Lw

namespace Lw
open PySem PySem.Spec PyProof.Rows L2
abbrev hk : PySem.W.Hook := Ers.hookT 8 faL exL fnL erL
end Lw

open PySem PySem.W PySem.Calls PyProof.Rows
theorem PySem.Challenge.cw_leastguards_k13_whole_wanted_ends_holds : PySem.Challenge.rw_leastguards_k13_whole_wanted_ends.Holds := by
  w_on; o_law
  o_head Lw.hk
  case hw => w_witness2
  case hc =>
    refine L2.walk_ofE (l := PySem.Challenge.rw_leastguards_k13_whole_wanted_ends) (n := 63) (k := 8) (x := "_law_script") (CX := L2.CX0) rfl (by decide) (by kernel_rfl) ⟨rfl, by decide, by decide⟩ ?F (fun _ _ _ _ z => z)
    intro w mg fa h Y G hmg0
    obtain ⟨K, KX, c⟩ := Y
    have hmg : mg ("law" : PySem.Str) = some (.ref fa) := hmg0
    obtain ⟨fd, hb, hF⟩ := Lw.facts (P := (PySem.Challenge.rw_leastguards_k13_whole_wanted_ends).prog) (w := w) (by decide +kernel) (by decide +kernel) KX G hmg c
    exact ⟨K, fd, Lw.spLaw K, KX, hb, fun H a ns hl _ hS => ⟨a, ns, rfl, hS, fun _ => rfl⟩, hF⟩

