import PyProof.Rows.All
import Wide.All
import OpenK.AllK
import Wide.FinOn
import KE.KStateDown
import KE.KOpsOwn
import HandS.ForMost
import HandS.Set
import HandS.SetBool
import HandS.Strs
import HandS.More
import HandS.Words
import HandS.WordsExc
import HandS.Defaults
import HandS.Codes
import HandS.Deep
import HandS.IsInst
import HandS.Style
import HandS.Property
import HandS.Flow
import HandS.Evl
import HandS.DictTup
import HandS.Conv
import HandS.Iter
import KE.GoesEnum
import KE.GoesMore
import HandS.Head0
import HandS.Head1
import HandS.Head2
import HandS.HeadEnd
import HandS.HeadHook1
import HandS.HeadHook2
import HandS.Walk
import HandS.DictComp
import HandS.OwnEq
import PyProof.InstEq
import PyProof.InstNe
import HandS.SortKw
import HandS.Finally
import PyProof.StrBlock2
import PySem.Challenge.RW_leastguards_k05_view_tells_what_it_sees
set_option Elab.async false
set_option linter.all false
set_option maxRecDepth 100000
set_option maxHeartbeats 4000000
/-! Sets of texts: filled, asked, walked, sorted. -/
namespace Txs
open PySem PySem.Spec PyProof.Rows L2

def txOf (e : Int × Value) : Str := match e.2 with | .str x _ => x | _ => Str.empty
def TxE (P : Program) (w : World) (e : Int × Value) : Prop := ∃ x t, e = ((PySem.strKind P w).hash x, Value.str x t)

/-- the entries es under the table t are the texts S -/
structure Tab (P : Program) (w : World) (es : Array (Int × Value)) (t : SetTable) (S : Str → Bool) : Prop where
  all : ∀ e ∈ es.toList, TxE P w e
  once : (es.toList.map txOf).Nodup
  just : ∀ x, S x = true ↔ x ∈ es.toList.map txOf
  few : es.size < scanBound
  fits : t.fits es.size = true
  rises : Ris t.place.toList
  known : w.params.followText "set-order" = true ∨ t.led = true
def SetT (P : Program) (w : World) (h : Heap) (a : Addr) (S : Str → Bool) (n : Nat) : Prop :=
  ∃ ob es ep t, h.get? a = some ob ∧ ob.ExactSet ∧ ob.data = .set es ep t ∧ Tab P w es t S ∧ es.size = n

section
variable {P : Program} {w : World} {h h' : Heap} {a : Addr} {S S' : Str → Bool} {n : Nat} {es : Array (Int × Value)} {t : SetTable}
theorem SetT.stay (z : SetT P w h a S n) (k : ∀ ob, h.get? a = some ob → h'.get? a = some ob) : SetT P w h' a S n :=
  let ⟨ob, es, ep, t, e, r⟩ := z
  ⟨ob, es, ep, t, k ob e, r⟩
theorem SetT.same (z : SetT P w h a S n) (q : ∀ x, S' x = S x) : SetT P w h a S' n := by
  rw [show S' = S from funext q]; exact z
theorem tx_is (x : Str) (tk : Tok) (k : Str) : (PySem.strKind P w).is k (.str x tk) = true ↔ x = k := by
  simp [PySem.strKind, Value.isStrOf]
theorem Tab.elems (T : Tab P w es t S) : ElemsOf (PySem.strKind P w) es.toList := fun e he => by
  obtain ⟨x, tk, rfl⟩ := T.all e he
  exact ⟨⟨x, (tx_is x tk x).2 rfl, rfl⟩, rfl⟩
theorem Tab.has (T : Tab P w es t S) (k : Str) : S k = true ↔ ∃ e ∈ es.toList, (PySem.strKind P w).is k e.2 = true := by
  rw [T.just k, List.mem_map]
  refine exists_congr fun e => and_congr_right fun he => ?_
  obtain ⟨x, tk, rfl⟩ := T.all e he
  exact (tx_is x tk k).symm
theorem SetT.plainSet (z : SetT P w h a S n) : h.SetOf (PySem.strKind P w) a S n :=
  let ⟨ob, es, ep, t, e, ex, d, T, c⟩ := z
  ⟨ob, es, ep, t, e, ex, d, T.elems, T.has, T.few, T.fits, c⟩
/-- the entries in another order, under another table -/
theorem Tab.turn (T : Tab P w es t S) {fs : Array (Int × Value)} {t' : SetTable} (p : fs.toList.Perm es.toList) (hf : t'.fits fs.size = true) (hr : Ris t'.place.toList) (hl : t'.led = t.led) : Tab P w fs t' S where
  all := fun e he => T.all e (p.mem_iff.mp he)
  once := (p.map txOf).nodup_iff.mpr T.once
  just := fun x => (T.just x).trans (p.map txOf).mem_iff.symm
  few := by rw [← Array.length_toList, p.length_eq, Array.length_toList]; exact T.few
  fits := hf
  rises := hr
  known := T.known.imp id fun q => hl.trans q
/-- one text more -/
theorem Tab.more (T : Tab P w es t S) {x : Str} {tk : Tok} (hx : S x = false) {fs : Array (Int × Value)} {t' : SetTable} (p : fs.toList.Perm (es.push ((PySem.strKind P w).hash x, .str x tk)).toList)
    (hb : es.size + 1 < scanBound) (hf : t'.fits fs.size = true) (hr : Ris t'.place.toList) (hl : t'.led = t.led) : Tab P w fs t' (fun y => S y || decide (y = x)) := by
  rw [Array.toList_push] at p
  have p : fs.toList.Perm (((PySem.strKind P w).hash x, Value.str x tk) :: es.toList) := p.trans (List.perm_append_singleton _ _)
  have pm : (fs.toList.map txOf).Perm (x :: es.toList.map txOf) := p.map txOf
  have nx : ¬ x ∈ es.toList.map txOf := fun q => by rw [(T.just x).2 q] at hx; cases hx
  exact {
    all := fun e he => (List.mem_cons.mp (p.mem_iff.mp he)).elim (fun z => ⟨x, tk, z⟩) (T.all e)
    once := pm.nodup_iff.mpr (List.nodup_cons.mpr ⟨nx, T.once⟩)
    just := fun y => by rw [Bool.or_eq_true, decide_eq_true_eq, T.just y, pm.mem_iff, List.mem_cons, or_comm]
    few := by rw [← Array.length_toList, p.length_eq, List.length_cons, Array.length_toList]; exact hb
    fits := hf
    rises := hr
    known := T.known.imp id fun q => hl.trans q }
end

section
variable {P : Program} {w : World} {A : Around} {E : Value → Shared → Prop} {s : Shared} {a : Addr} {S : Str → Bool} {n : Nat}
theorem put_get {h : Heap} {ob : Obj} {es fs : Array (Int × Value)} {ep : Nat} {t t' : SetTable} (e : h.get? a = some ob) (d : ob.data = .set es ep t) :
    (h.update a (Obj.putSet fs t')).get? a = some { ob with data := .set fs (ep + 1) t' } :=
  (Heap.get?_update_self (Obj.putSet fs t') e (by rw [putSet_of fs t' d]; rfl)).trans (by rw [putSet_of fs t' d])
/-- the table is stored, and laid anew where it is full -/
theorem lay_tail {g : Bool → Sem Unit} (hg : ∀ (b : Bool) (s' : Shared) (R : Unit → Shared → Prop), R () s' → wpAny (model P w) A (g b) R E s') {ob : Obj} {es fs : Array (Int × Value)} {ep : Nat} {t t' : SetTable}
    (e : s.heap.get? a = some ob) (ex : ob.ExactSet) (d : ob.data = .set es ep t) (T : Tab P w fs t' S) {dummy : Bool} {R : Option Bool → Shared → Prop}
    (k : ∀ h', Heap.SameBut a s.heap h' → SetT P w h' a S fs.size → R (some true) { s with heap := h' }) :
    wpAny (model P w) A (do
      storeSet a fs t'
      if (!dummy && t'.tooFull) = true then do
        g (relayAll t' fs (SetTable.grown fs.size)).2.2
        storeSet a (relayAll t' fs (SetTable.grown fs.size)).1 (relayAll t' fs (SetTable.grown fs.size)).2.1
        pure (some true)
      else pure (some true)) R E s := by
  have g1 := put_get (fs := fs) (t' := t') e d
  have b1 := Heap.SameBut.update s.heap a (Obj.putSet fs t')
  refine wpAny_bind (wpAny_storeSet_of e d ?_ (fits_of_scanBound T.few))
  split
  · obtain ⟨p, f, r, l⟩ : _ ∧ _ ∧ _ ∧ _ := ⟨relayAll_perm t' fs (SetTable.grown fs.size), relayAll_fits t' fs (SetTable.grown fs.size), relayAll_ris t' fs (SetTable.grown fs.size), relayAll_led t' fs (SetTable.grown fs.size)⟩
    generalize relayAll t' fs (SetTable.grown fs.size) = Y at p f r l ⊢
    obtain ⟨gs, u, b⟩ := Y
    have T2 : Tab P w gs u S := T.turn p f r l
    have sz : gs.size = fs.size := by rw [← Array.length_toList, p.length_eq, Array.length_toList]
    have d1 : ({ ob with data := .set fs (ep + 1) t' } : Obj).data = .set fs (ep + 1) t' := rfl
    refine wpAny_bind (hg _ _ _ ?_)
    refine wpAny_bind (wpAny_storeSet_of g1 d1 ?_ (fits_of_scanBound T2.few))
    exact wpAny_pure (k _ (b1.trans (Heap.SameBut.update _ a _)) ⟨_, gs, _, u, put_get g1 d1, ex, rfl, T2, sz⟩)
  · exact wpAny_pure (k _ b1 ⟨_, fs, _, t', g1, ex, rfl, T, rfl⟩)
theorem gave {b : Bool} {s' : Shared} {R : Unit → Shared → Prop} (r : R () s') : wpAny (model P w) A (match b with | true => rule "set.scan.the-table-gave-way" | false => pure ()) R E s' := by
  cases b
  · exact wpAny_pure r
  · exact wpAny_rule r
theorem add_hashed {x : Str} {tk : Tok} {R : Bool → Shared → Prop} (z : SetT P w s.heap a S n) (room : n + 1 < scanBound)
    (k : ∀ h', Heap.SameBut a s.heap h' → SetT P w h' a (fun y => S y || decide (y = x)) (if S x = true then n else n + 1) → R (!S x) { s with heap := h' }) :
    wpAny (model P w) A (setAddHashed a (.str x tk) ((PySem.strKind P w).hash x)) R E s := by
  obtain ⟨ob, es, ep, t, e, ex, d, T, rfl⟩ := z
  have kx : (PySem.strKind P w).is x (.str x tk) = true := (tx_is x tk x).2 rfl
  unfold setAddHashed setAddHashedIn
  refine wpAny_holding (wpAny_bind (wpAny_setState_of e d T.fits ?_))
  dsimp only
  rw [show byScan (Value.str x tk) es = true from byScan_of rfl T.few T.elems]
  simp only [if_true]
  unfold setAddByScan
  refine wpAny_bind (wpAny_bind (wpAny_rule (wpAny_bind (wpAny_setScan_of kx e d T.fits T.elems ?_))))
  cases fnd : es.toList.findIdx? (fun e => (PySem.strKind P w).is x e.2) with
  | some j =>
    have sx : S x = true := by
      obtain ⟨lt, at_, _⟩ := List.findIdx?_eq_some_iff_getElem.mp fnd
      exact (T.has x).2 ⟨_, List.getElem_mem lt, at_⟩
    have js : ∀ y, (S y || decide (y = x)) = true ↔ y ∈ es.toList.map txOf := fun y => by
      rw [Bool.or_eq_true, decide_eq_true_eq, ← T.just y]
      exact ⟨fun q => q.elim id fun q => q ▸ sx, .inl⟩
    have k' := k s.heap (Heap.SameBut.refl a s.heap) ⟨ob, es, ep, t, e, ex, d, ⟨T.all, T.once, js, T.few, T.fits, T.rises, T.known⟩, by rw [if_pos sx]⟩
    rw [sx] at k'
    exact wpAny_pure (wpAny_pure k')
  | none =>
    have sx : S x = false := by
      cases q : S x with
      | false => rfl
      | true =>
        obtain ⟨e', he, p⟩ := (T.has x).1 q
        have := List.findIdx?_eq_none_iff.mp fnd e' he
        rw [p] at this; cases this
    obtain ⟨p, f, r, l⟩ : _ ∧ _ ∧ _ ∧ _ := ⟨layNew_perm t es ((PySem.strKind P w).hash x) (.str x tk), layNew_fits t es ((PySem.strKind P w).hash x) (.str x tk), layNew_ris t es ((PySem.strKind P w).hash x) (.str x tk) T.rises, layNew_led t es ((PySem.strKind P w).hash x) (.str x tk)⟩
    dsimp only
    generalize layNew t es ((PySem.strKind P w).hash x) (.str x tk) = Y at p f r l ⊢
    obtain ⟨fs, u, dm, gv⟩ := Y
    dsimp only at p f r l ⊢
    have sz : fs.size = es.size + 1 := by rw [← Array.length_toList, p.length_eq, Array.length_toList, Array.size_push]
    have T2 : ∀ u' : SetTable, u'.fits fs.size = true → Ris u'.place.toList → u'.led = t.led → Tab P w fs u' (fun y => S y || decide (y = x)) := fun u' => T.more sx p room
    have fin : ∀ h', Heap.SameBut a s.heap h' → SetT P w h' a (fun y => S y || decide (y = x)) fs.size → R true { s with heap := h' } := fun h' b q => by
      have := k h' b
      rw [sx, if_neg Bool.false_ne_true, ← sz] at this
      exact this q
    refine wpAny_bind (gave ?_)
    split
    · refine wpAny_bind ?_
      rw [hashByValue_scannable 8 (x := Value.str x tk) rfl]
      refine wpAny_pure (lay_tail (fun b s' R q => gave q) e ex d ?_ fun h' b q => wpAny_pure (fin h' b q))
      first
        | exact T2 _ f r l
        | (split
           · exact T2 _ f r l
           · exact T2 _ (SetTable.fits_plain_off f) r l)
    · refine wpAny_bind (wpAny_pure ?_)
      simp only [if_true]
      exact lay_tail (fun b s' R q => gave q) e ex d (T2 _ f r l) fun h' b q => wpAny_pure (fin h' b q)
/-- a.add(x) -/
theorem add_call {x : Str} {tk : Tok} {R : Value → Shared → Prop} (z : SetT P w s.heap a S n) (room : n + 1 < scanBound)
    (k : ∀ h', Heap.SameBut a s.heap h' → SetT P w h' a (fun y => S y || decide (y = x)) (if S x = true then n else n + 1) → R .none { s with heap := h', toks := s.toks + 1 }) :
    wpAny (model P w) A (call (.builtin "set.add") [.ref a, .str x tk]) R E s := by
  refine wpAny_call_entry F.slot_set_add z.plainSet.typeIs F.entry_set_add ?_ (F.args_set_add_2 _ _)
  unfold Builtin.«set.add» Builtin.Frozenset.oneOther Builtin.Frozenset.addrOf setAdd
  simp only [List.isEmpty_nil, bind_assoc]
  refine wpAny_bind (wpAny_pure ?_)
  try dsimp only
  refine wpAny_bind (wpAny_pure ?_)
  try dsimp only
  refine wpAny_bind (wpAny_holding (wpAny_bind ((PySem.strKind P w).pyHash ((tx_is x tk x).2 rfl) ?_)))
  exact add_hashed (s := { s with toks := s.toks + 1 }) z room fun h' b q => (show wpAny _ _ (ret Value.none) _ _ _ from wpAny_pure ⟨_, rfl, k h' b q⟩)
end
end Txs


namespace Txs
open PySem PySem.Spec PyProof.Rows L2
/-- a new set's object -/
abbrev eSet (w : World) : Obj := { cls := .type "set", dict := none, data := .set #[] 0 (.fresh 0 0 (!w.params.followText "set-order")) }
theorem eSet_ok {P : Program} (w : World) {h : Heap} : SetT P w (h.push (eSet w)) h.objs.size (fun _ => false) 0 := by
  refine ⟨_, #[], 0, _, Heap.get?_push_size _ rfl, ⟨rfl, rfl, rfl⟩, rfl, ⟨by simp, by simp, by simp, by decide, rfl, List.Pairwise.nil, ?_⟩, rfl⟩
  show _ ∨ (!w.params.followText "set-order") = true
  cases w.params.followText "set-order" <;> simp
section
variable {P : Program} {w : World} {A : Around} {E : Value → Shared → Prop} {s : Shared}
/-- type(set) makes one, its one argument not looked at -/
theorem new_one (u : Value) {R : Value → Shared → Prop} (k : R (.ref s.heap.objs.size) { s with heap := s.heap.push (eSet w) }) : codeAny (model P w) A (.call (.builtin "set.__new__") ⟨[.type "set", u], []⟩) (wants R E) s := by
  refine codeAny_of_tree (show wpAny _ A.in1 (do checkBuiltinCall "set.__new__" ⟨[.type "set", u], []⟩; again (.builtin "set.__new__" ⟨[.type "set", u], []⟩)) _ _ s from wpAny_bind (wpAny_of_eq (PySem.F.newCall_set_1 u) (wpAny_pure ⟨plainId_quiet F.plain_set_new _, codeAny_builtin F.entry_set_new ?_⟩)))
  rw [Around.under_plainId F.plain_set_new _]
  have sub_ := sub_set_self
  unfold Builtin.«set.__new__» Builtin.Frozenset.newClass
  cases s
  dsimp only
  wp_walk
  refine wpAny_askSetting (wpAny_pure ?_)
  simp only [newObj]
  exact wpAny_bind (wpAny_alloc (wpAny_pure (wpAny_pure k)))
end
section
variable {P : Program} {w : World} {A : Around} {R : Result → Shared → Prop} {I : Addr} {fp wr : List Addr} {G : Array GenState → Array GenState → Prop} {n : Nat} {Y : Nat → Value → Prop} {St : Nat → Shared → Prop}
/-- the loop that fills it -/
theorem fill_loop (W : WalksS P w A.in1 I fp wr G n Y St) (D : Addr) (nf : D ∉ fp) (xs : List Str) (len : xs.length = n) (room : n + 1 < scanBound) (hv : ∀ i v, Y i v → ∃ t, v = .str (xs.getD i Str.empty) t) :
    ∀ (m i c : Nat) (s : Shared), n - i = m → i ≤ n → c ≤ i → St i s → SetT P w s.heap D (fun x => decide (x ∈ xs.take i)) c →
      (∀ s' c', c' ≤ n → Moved (D :: wr) G s s' → SetT P w s'.heap D (fun x => decide (x ∈ xs.take n)) c' → R (.ok (.ret .none)) s') → codeAny (model P w) A (.builtin "set.update.loop" ⟨[.ref D, .ref I], []⟩) R s := by
  have nw : D ∉ wr := fun z => nf (W.sub _ z)
  intro m
  induction m with
  | zero =>
    intro i c s e hi hc st T fin
    obtain rfl : i = n := by omega
    refine codeAny_builtin PyProof.Rows.F.entry_set_update_loop ?_
    rw [Around.under_plainId PyProof.Rows.F.plain_set_update_loop _]
    refine (show wpAny _ A.in1 (pyNext (.ref I) >>= _) _ _ s from wpAny_bind (W.done s _ _ st fun s' mv => ?_))
    exact (show wpAny _ A.in1 (ret Value.none) _ _ s' from wpAny_pure (fin s' c hc (mv.mono fun b z => List.mem_cons_of_mem _ z) (T.stay fun ob q => mv.heap D _ nw q)))
  | succ m ih =>
    intro i c s e hi hc st T fin
    have lt : i < n := by omega
    have li : i < xs.length := by omega
    refine codeAny_builtin PyProof.Rows.F.entry_set_update_loop ?_
    rw [Around.under_plainId PyProof.Rows.F.plain_set_update_loop _]
    refine (show wpAny _ A.in1 (pyNext (.ref I) >>= _) _ _ s from wpAny_bind (W.item i s _ _ lt st fun v s' y st' mv => ?_))
    obtain ⟨tk, rfl⟩ := hv i v y
    have T1 : SetT P w s'.heap D (fun x => decide (x ∈ xs.take i)) c := T.stay fun ob q => mv.heap D _ nw q
    generalize hx : xs.getD i Str.empty = x
    have tk1 : xs.take (i + 1) = xs.take i ++ [x] := by
      rw [List.take_succ, ← hx]; simp [List.getD, li]
    refine (show wpAny _ A.in1 (holding [Value.str x tk] (setAdd D (.str x tk)) >>= _) _ _ s' from wpAny_bind (wpAny_holding ?_))
    unfold setAdd
    refine wpAny_holding (wpAny_bind ((PySem.strKind P w).pyHash ((tx_is x tk x).2 rfl) (add_hashed (s := { s' with toks := s'.toks + 1 }) T1 (by omega) fun h' b q => ?_)))
    have q' : SetT P w h' D (fun y => decide (y ∈ xs.take (i + 1))) (if decide (x ∈ xs.take i) = true then c else c + 1) := q.same fun y => by
      rw [tk1, ← Bool.decide_or]
      exact decide_eq_decide.mpr (by simp)
    refine wpAny_pure ⟨plainId_quiet PyProof.Rows.F.plain_set_update_loop _, ih (i + 1) _ _ (by omega) lt (by split <;> omega) (W.frame _ s' _ _ st' (Nat.le_succ _) fun z hz o g => ?_) q' fun s2 c2 h2 mv2 T2 => ?_⟩
    · exact (b.2 z fun e : z = D => nf (e ▸ hz)).trans g
    · refine fin s2 c2 h2 (Moved.trans W.gtrans ((mv.mono fun b z => List.mem_cons_of_mem _ z).then_heap (Nat.le_succ _) fun z o hz g => ?_) mv2) T2
      exact (b.2 z fun e : z = D => hz (e ▸ List.mem_cons_self)).trans g
end
section
variable {P : Program} {w : World} {A : Around} {E : Value → Shared → Prop} {s : Shared}

set_option maxHeartbeats 8000000 in
theorem set_list {l : Addr} {items : Array Value} {xs : List Str} {R : Value → Shared → Prop} (hh : A.handled = none) (hl : s.heap.IsList l items) (ht : StrsAre items.toList xs) (room : xs.length + 1 < scanBound)
    (k : ∀ (h' : Heap) (tk c : Nat), c ≤ xs.length → SetT P w h' s.heap.objs.size (fun x => decide (x ∈ xs)) c → (∀ b o, s.heap.get? b = some o → h'.get? b = some o) → R (.ref s.heap.objs.size) { s with heap := h', toks := tk }) :
    wpAny (model P w) A (call (.type "set") [.ref l]) R E s := by
  obtain ⟨_, _, mro_⟩ := PySem.F.called_set.mro
  obtain ⟨made_, sub_, nt_, can_, tc_⟩ : _ ∧ _ ∧ _ ∧ _ ∧ _ := ⟨PySem.F.called_set.made, PySem.F.called_set.sub, PySem.F.called_set.notType, PySem.F.called_set.canCreate, PySem.F.typeCall_set_1 (.ref l)⟩
  have atS := Heap.get?_push_size (h := s.heap) (o := eSet w) rfl
  have newS : Shared.TypeIs { s with heap := s.heap.push (eSet w) } (.ref s.heap.objs.size) "set" := ⟨_, atS, rfl⟩
  refine wpAny_call (codeAny_of_tree (show wpAny _ _ (callAny (.type "set") _) _ _ _ from wpAny_pure ⟨Code.quiet_builtin _ (by decide +kernel), codeAny_builtin PySem.F.entry_type_call ?_⟩))
  rw [Around.under_plain (weight_type_call_type "set" [.ref l] []) rfl]
  repeat (any_goals (first | assumption | wp_step))
  refine codeAny_mono (new_one (.ref l) (E := E) (R := fun u s1 => u = .ref s.heap.objs.size ∧ s1 = { s with heap := s.heap.push (eSet w) }) ⟨rfl, rfl⟩) fun r s1 z => ?_
  rcases r with _ | (_ | _ | _ | u)
  all_goals first | exact z | exact z.elim | skip
  obtain ⟨rfl, rfl⟩ := z
  have ini_ := PySem.F.called_set.init.lookup
  have bnd_ := PySem.F.called_set.init.bind (.ref s.heap.objs.size)
  repeat (any_goals (first | assumption | wp_step))
  refine codeAny_mono (codeAny_call_builtin (R := wants (fun u s2 => u = .none ∧ ∃ h' tk c, s2 = { s with heap := h', toks := tk } ∧ c ≤ xs.length ∧ SetT P w h' s.heap.objs.size (fun x => decide (x ∈ xs)) c ∧
    ∀ b o, s.heap.get? b = some o → h'.get? b = some o) E) PySem.F.called_set.init.plain PySem.F.entry_set_init (check_set_init_1 newS ?_)) fun r s2 z => ?_
  · obtain ⟨⟨oc, od, dt, sl⟩, ol, ec, nl, ed⟩ := hl
    dsimp only at ec ed
    subst ec ed
    have ol' : (s.heap.push (eSet w)).get? l = some { cls := .type "list", dict := od, data := .seq items nl, slots := sl } := Heap.get?_push_of_some _ ol
    obtain ⟨s1_, s2_⟩ := And.intro PySem.F.sub_list_set PySem.F.sub_list_frozenset
    have nd_ : (Value.type "list" == Value.type "dict") = false := by decide
    have il : (s.heap.push (eSet w)).IsList l items := ⟨_, ol', rfl, nl, rfl⟩
    have ll : l < s.heap.objs.size := Heap.lt_size ol
    unfold Builtin.«set.__init__» noKeywords Builtin.Frozenset.updateFrom
    generalize hPI : pyIter = PI
    wp_walk
    subst hPI
    refine wpAny_pyIter_list il (wpAny_bind (wpAny_runValue ?_))
    have sz1 : (s.heap.push (eSet w)).objs.size = s.heap.objs.size + 1 := size_push' _ _
    have ne1 : l ≠ (s.heap.push (eSet w)).objs.size := by rw [sz1]; exact Nat.ne_of_lt (Nat.lt_succ_of_lt ll)
    have nf : s.heap.objs.size ∉ [(s.heap.push (eSet w)).objs.size, l] := fun z => by
      rcases List.mem_cons.mp z with z | z
      · rw [sz1] at z; exact absurd z (Nat.ne_of_lt (Nat.lt_succ_self _))
      · exact absurd (List.mem_singleton.mp z) (Nat.ne_of_gt ll)
    have len : xs.length = items.size := by rw [← StrsAre.len_eq ht, Array.length_toList]
    refine fill_loop ((Walks.list (show A.in1.in1.in1.handled = none by simp [hh]) _ l ne1 items).toS) s.heap.objs.size nf xs len (by rw [← len]; exact room)
      (fun i v e => SS.strs_at ht i v (by rw [Array.getElem?_toList]; exact e)) (items.size - 0) 0 0 _ (by omega) (Nat.zero_le _) (Nat.zero_le _) ⟨⟨_, Heap.get?_push_size _ rfl, rfl, rfl⟩, il.push _⟩ ?z0 ?z1
    case z0 => exact ((eSet_ok (P := P) w).stay fun ob e => Heap.get?_push_of_some _ e).same fun x => by simp
    case z1 =>
      intro s3 c hc mv T
      obtain ⟨h3, g3, d3, t3, o3⟩ := s3
      obtain ⟨rfl, rfl, rfl⟩ : g3 = s.gens ∧ d3 = s.drawn ∧ o3 = s.os := ⟨mv.gens, mv.drawn, mv.os⟩
      refine wpAny_pure (show wpAny _ _ (ret Value.none) _ _ _ from wpAny_pure ⟨rfl, h3, t3, c, rfl, by rw [len]; exact hc, ?_, fun b o e => ?_⟩)
      · rw [← len, List.take_length] at T; exact T
      · have lb := Heap.lt_size e
        refine mv.heap b o (fun z => ?_) (Heap.get?_push_of_some _ (Heap.get?_push_of_some _ e))
        rcases List.mem_cons.mp z with z | z
        · exact absurd z (Nat.ne_of_lt lb)
        · have z := List.mem_singleton.mp z
          rw [sz1] at z
          exact absurd z (Nat.ne_of_lt (Nat.lt_succ_of_lt lb))
  · rcases r with _ | (_ | _ | _ | u)
    all_goals first | exact z | exact z.elim | skip
    obtain ⟨rfl, h', tk, c, rfl, hc, T, kp⟩ := z
    repeat (any_goals (first | assumption | wp_step))
    exact k h' _ c hc T kp

set_option maxHeartbeats 8000000 in
theorem set_tuple {l : Addr} {items : Array Value} {xs : List Str} {R : Value → Shared → Prop} (hh : A.handled = none) (hl : s.heap.IsTuple l items) (ht : StrsAre items.toList xs) (room : xs.length + 1 < scanBound)
    (k : ∀ (h' : Heap) (tk c : Nat), c ≤ xs.length → SetT P w h' s.heap.objs.size (fun x => decide (x ∈ xs)) c → (∀ b o, s.heap.get? b = some o → h'.get? b = some o) → R (.ref s.heap.objs.size) { s with heap := h', toks := tk }) :
    wpAny (model P w) A (call (.type "set") [.ref l]) R E s := by
  obtain ⟨_, _, mro_⟩ := PySem.F.called_set.mro
  obtain ⟨made_, sub_, nt_, can_, tc_⟩ : _ ∧ _ ∧ _ ∧ _ ∧ _ := ⟨PySem.F.called_set.made, PySem.F.called_set.sub, PySem.F.called_set.notType, PySem.F.called_set.canCreate, PySem.F.typeCall_set_1 (.ref l)⟩
  have atS := Heap.get?_push_size (h := s.heap) (o := eSet w) rfl
  have newS : Shared.TypeIs { s with heap := s.heap.push (eSet w) } (.ref s.heap.objs.size) "set" := ⟨_, atS, rfl⟩
  refine wpAny_call (codeAny_of_tree (show wpAny _ _ (callAny (.type "set") _) _ _ _ from wpAny_pure ⟨Code.quiet_builtin _ (by decide +kernel), codeAny_builtin PySem.F.entry_type_call ?_⟩))
  rw [Around.under_plain (weight_type_call_type "set" [.ref l] []) rfl]
  repeat (any_goals (first | assumption | wp_step))
  refine codeAny_mono (new_one (.ref l) (E := E) (R := fun u s1 => u = .ref s.heap.objs.size ∧ s1 = { s with heap := s.heap.push (eSet w) }) ⟨rfl, rfl⟩) fun r s1 z => ?_
  rcases r with _ | (_ | _ | _ | u)
  all_goals first | exact z | exact z.elim | skip
  obtain ⟨rfl, rfl⟩ := z
  have ini_ := PySem.F.called_set.init.lookup
  have bnd_ := PySem.F.called_set.init.bind (.ref s.heap.objs.size)
  repeat (any_goals (first | assumption | wp_step))
  refine codeAny_mono (codeAny_call_builtin (R := wants (fun u s2 => u = .none ∧ ∃ h' tk c, s2 = { s with heap := h', toks := tk } ∧ c ≤ xs.length ∧ SetT P w h' s.heap.objs.size (fun x => decide (x ∈ xs)) c ∧
    ∀ b o, s.heap.get? b = some o → h'.get? b = some o) E) PySem.F.called_set.init.plain PySem.F.entry_set_init (check_set_init_1 newS ?_)) fun r s2 z => ?_
  · obtain ⟨⟨oc, od, dt, sl⟩, ol, ec, nl, ed⟩ := hl
    dsimp only at ec ed
    subst ec ed
    have ol' : (s.heap.push (eSet w)).get? l = some { cls := .type "tuple", dict := od, data := .seq items nl, slots := sl } := Heap.get?_push_of_some _ ol
    obtain ⟨s1_, s2_⟩ := And.intro PySem.F.sub_tuple_set PySem.F.sub_tuple_frozenset
    have nd_ : (Value.type "tuple" == Value.type "dict") = false := by decide
    have il : (s.heap.push (eSet w)).IsTuple l items := ⟨_, ol', rfl, nl, rfl⟩
    have ll : l < s.heap.objs.size := Heap.lt_size ol
    unfold Builtin.«set.__init__» noKeywords Builtin.Frozenset.updateFrom
    generalize hPI : pyIter = PI
    wp_walk
    subst hPI
    refine wpAny_pyIter_tuple il (wpAny_bind (wpAny_runValue ?_))
    have sz1 : (s.heap.push (eSet w)).objs.size = s.heap.objs.size + 1 := size_push' _ _
    have ne1 : l ≠ (s.heap.push (eSet w)).objs.size := by rw [sz1]; exact Nat.ne_of_lt (Nat.lt_succ_of_lt ll)
    have nf : s.heap.objs.size ∉ [(s.heap.push (eSet w)).objs.size, l] := fun z => by
      rcases List.mem_cons.mp z with z | z
      · rw [sz1] at z; exact absurd z (Nat.ne_of_lt (Nat.lt_succ_self _))
      · exact absurd (List.mem_singleton.mp z) (Nat.ne_of_gt ll)
    have len : xs.length = items.size := by rw [← StrsAre.len_eq ht, Array.length_toList]
    refine fill_loop ((Walks.tuple (show A.in1.in1.in1.handled = none by simp [hh]) _ l ne1 items).toS) s.heap.objs.size nf xs len (by rw [← len]; exact room)
      (fun i v e => SS.strs_at ht i v (by rw [Array.getElem?_toList]; exact e)) (items.size - 0) 0 0 _ (by omega) (Nat.zero_le _) (Nat.zero_le _) ⟨⟨_, Heap.get?_push_size _ rfl, rfl, rfl⟩, il.push _⟩ ?z0 ?z1
    case z0 => exact ((eSet_ok (P := P) w).stay fun ob e => Heap.get?_push_of_some _ e).same fun x => by simp
    case z1 =>
      intro s3 c hc mv T
      obtain ⟨h3, g3, d3, t3, o3⟩ := s3
      obtain ⟨rfl, rfl, rfl⟩ : g3 = s.gens ∧ d3 = s.drawn ∧ o3 = s.os := ⟨mv.gens, mv.drawn, mv.os⟩
      refine wpAny_pure (show wpAny _ _ (ret Value.none) _ _ _ from wpAny_pure ⟨rfl, h3, t3, c, rfl, by rw [len]; exact hc, ?_, fun b o e => ?_⟩)
      · rw [← len, List.take_length] at T; exact T
      · have lb := Heap.lt_size e
        refine mv.heap b o (fun z => ?_) (Heap.get?_push_of_some _ (Heap.get?_push_of_some _ e))
        rcases List.mem_cons.mp z with z | z
        · exact absurd z (Nat.ne_of_lt lb)
        · have z := List.mem_singleton.mp z
          rw [sz1] at z
          exact absurd z (Nat.ne_of_lt (Nat.lt_succ_of_lt lb))
  · rcases r with _ | (_ | _ | _ | u)
    all_goals first | exact z | exact z.elim | skip
    obtain ⟨rfl, h', tk, c, rfl, hc, T, kp⟩ := z
    repeat (any_goals (first | assumption | wp_step))
    exact k h' _ c hc T kp
end
end Txs


namespace Txs
open PySem PySem.Spec PyProof.Rows L2
/-! the set of texts as a tracked thing -/
def SetX (P : Program) (w : World) (a : Addr) (S : Str → Bool) (n : Nat) : HO := .ext fun h => SetT P w h a S n
theorem setX_new {P : Program} {w : World} {H : Hp} {h : Heap} {a : Addr} {S : Str → Bool} {n : Nat} (z : SetT P w h a S n) : ObjOk P w H h a (SetX P w a S n) :=
  ⟨z, let ⟨ob, _, _, _, e, _⟩ := z; ⟨ob, e⟩, fun _ _ q k => SetT.stay q k⟩

/-! order of texts -/
theorem lt_tri (a b : List Nat) : a < b ∨ a = b ∨ b < a := by
  rcases Decidable.em (a < b) with h | h
  · exact .inl h
  · rcases Decidable.em (b < a) with g | g
    · exact .inr (.inr g)
    · exact .inr (.inl (List.le_antisymm (List.not_lt.mp g) (List.not_lt.mp h)))
abbrev leS (a b : Str) : Prop := ¬ b.cps.toList < a.cps.toList
theorem str_ext {a b : Str} (h : a.cps.toList = b.cps.toList) : a = b := by
  cases a; cases b
  congr 1
  exact Array.toList_inj.mp h
theorem leS_anti {a b : Str} (h : leS a b) (g : leS b a) : a = b := by
  rcases lt_tri a.cps.toList b.cps.toList with z | z | z
  · exact absurd z g
  · exact str_ext z
  · exact absurd z h
theorem leS_trans {a b c : Str} (h : leS a b) (g : leS b c) : leS a c := by
  have h' : a.cps.toList ≤ b.cps.toList := List.not_lt.mp h
  have g' : b.cps.toList ≤ c.cps.toList := List.not_lt.mp g
  exact List.not_lt.mpr (List.le_trans h' g')
theorem sorted_pair : ∀ {l : List Str}, sortedS l = true → l.Pairwise leS
  | [], _ => .nil
  | [a], _ => List.pairwise_singleton _ _
  | a :: b :: l, h => by
    have h : (!ltCps b.cps.toList a.cps.toList && sortedS (b :: l)) = true := h
    rw [Bool.and_eq_true] at h
    have ih := sorted_pair h.2
    have hab : leS a b := by
      have := h.1
      rw [ltCps_eq] at this
      simpa using this
    refine List.pairwise_cons.mpr ⟨fun x hx => ?_, ih⟩
    rcases List.mem_cons.mp hx with rfl | hx
    · exact hab
    · exact leS_trans hab ((List.pairwise_cons.mp ih).1 x hx)
theorem perm_pair_eq : ∀ {l r : List Str}, l.Pairwise leS → r.Pairwise leS → l.Perm r → l = r
  | [], r, _, _, p => (List.Perm.nil_eq p)
  | a :: l, [], _, _, p => by simpa using p.length_eq
  | a :: l, b :: r, hl, hr, p => by
    obtain ⟨l1, l2⟩ := List.pairwise_cons.mp hl
    obtain ⟨r1, r2⟩ := List.pairwise_cons.mp hr
    have e : a = b := by
      rcases List.mem_cons.mp (p.mem_iff.mp (List.mem_cons_self (a := a) (l := l))) with z | z
      · exact z
      · rcases List.mem_cons.mp (p.mem_iff.mpr (List.mem_cons_self (a := b) (l := r))) with y | y
        · exact y.symm
        · exact leS_anti (l1 _ y) (r1 _ z)
    subst e
    rw [perm_pair_eq l2 r2 ((List.perm_cons a).mp p)]
/-- ascending, each once: one list alone has just these members -/
def Asc (l : List Str) : Prop := sortedS l = true ∧ l.Nodup
theorem Asc.one {l r : List Str} (h : Asc l) (g : Asc r) (e : ∀ x, x ∈ l ↔ x ∈ r) : l = r :=
  perm_pair_eq (sorted_pair h.1) (sorted_pair g.1) ((List.perm_ext_iff_of_nodup h.2 g.2).mpr e)

section
variable {X : Cx}
theorem setX_get {pins : List (Addr × Obj)} {σ : L2.St} {H : Hp} {s : Shared} {a : Addr} {S : Str → Bool} {n : Nat} (I : Inv X pins σ H s) (ha : H a = some (SetX X.prog X.w a S n)) : SetT X.prog X.w s.heap a S n := (I.hok a _ ha).1

/-! set(xs) -/
def rSetL (K : PySem.W.Frag) (P : Program) (w : World) : List V → Hp → VK → Prop := fun vs H Q => ∃ (l : Addr) (xs : List Str), vs = [.ref l] ∧ (SqL K H l (xs.map V.str) ∨ SqT K H l (xs.map V.str)) ∧ xs.length + 1 < scanBound ∧
  ∀ p c, H p = none → c ≤ xs.length → Q (.ref p) (upd H p (SetX P w p (fun x => decide (x ∈ xs)) c))
theorem cr_setL (hc : X.calm = true) : CallR X (.type "set") (rSetL X.K X.prog X.w) := by
  intro pins s σ H vs us Q I r h
  obtain ⟨l, xs, rfl, hs, room, q⟩ := h
  rw [Vals.ref1 r]
  have fin : ∀ (h' : Heap) (tk c : Nat), c ≤ xs.length → SetT X.prog X.w h' s.heap.objs.size (fun x => decide (x ∈ xs)) c → (∀ b o, s.heap.get? b = some o → h'.get? b = some o) →
      EP X pins σ Q (.ref s.heap.objs.size) { s with heap := h', toks := tk } := fun h' tk c hcn T k =>
    ⟨.ref _, upd H s.heap.objs.size (SetX X.prog X.w s.heap.objs.size (fun x => decide (x ∈ xs)) c), I.laid k (Nat.le_refl _) (setX_new T), rfl, q _ c (I.hok.fresh (Nat.le_refl _)) hcn⟩
  rcases hs with hs | hs
  · obtain ⟨its, rv, pl, _⟩ := I.list hs
    exact set_list (I.ok.hd hc) pl.isList (by simpa using strsAre_of rv) room fin
  · obtain ⟨its, rv, pl, _⟩ := I.tuple hs
    exact set_tuple (I.ok.hd hc) pl (by simpa using strsAre_of rv) room fin

/-! x in found -/
def rInX (P : Program) (w : World) (neg : Bool) : V → V → Hp → VK → Prop := fun x y H Q => ∃ z a S n, x = V.str z ∧ y = V.ref a ∧ H a = some (SetX P w a S n) ∧ Q (.bl (if neg then !S z else S z)) H
theorem op_inX : OpR X (compareOp .In) (rInX X.prog X.w false) := by
  intro pins s σ H x y v u Q I rx ry h
  obtain ⟨z, a, S, n, rfl, rfl, ha, q⟩ := h
  cases ry
  obtain ⟨tk, rfl⟩ := rx
  exact wpAny_inSet_of ((tx_is z tk z).2 rfl) rfl (setX_get I ha).plainSet ⟨.bl (S z), H, I.tok _, rfl, q⟩
theorem op_notInX : OpR X (compareOp .NotIn) (rInX X.prog X.w true) := by
  intro pins s σ H x y v u Q I rx ry h
  obtain ⟨z, a, S, n, rfl, rfl, ha, q⟩ := h
  cases ry
  obtain ⟨tk, rfl⟩ := rx
  exact wpAny_notInSet_of ((tx_is z tk z).2 rfl) rfl (setX_get I ha).plainSet ⟨.bl (!S z), H, I.tok _, rfl, q⟩

/-! sorted(found) -/
def rSortedX (P : Program) (w : World) : List V → Hp → VK → Prop := fun vs H Q => ∃ (a : Addr) (S : Str → Bool) (n : Nat), vs = [V.ref a] ∧ H a = some (SetX P w a S n) ∧ n < 64 ∧
  ∀ (ys : List Str) (p : Addr), Asc ys → (∀ x, x ∈ ys ↔ S x = true) → ys.length = n → H p = none → Q (.ref p) (upd H p (.lst (ys.map V.str)))
theorem txs_of {P : Program} {w : World} : ∀ {l : List (Int × Value)}, (∀ e ∈ l, TxE P w e) → ∀ {vs : List Value}, vs.Perm (l.map (·.2)) → ∃ xs, StrsAre vs xs ∧ xs.Perm (l.map txOf) := fun {l} h {vs} p => by
  have all : ∀ v ∈ vs, ∃ x t, v = Value.str x t := fun v hv => by
    obtain ⟨e, he, q⟩ := List.mem_map.mp (p.mem_iff.mp hv)
    obtain ⟨x, t, rfl⟩ := h e he
    exact ⟨x, t, q.symm⟩
  have g : ∀ (vs : List Value), (∀ v ∈ vs, ∃ x t, v = Value.str x t) → StrsAre vs (vs.map fun v => txOf (0, v)) := by
    intro vs
    induction vs with
    | nil => intro _; exact .nil
    | cons v vs ih =>
      intro k
      obtain ⟨x, t, rfl⟩ := k v List.mem_cons_self
      exact .cons x t (ih fun u hu => k u (List.mem_cons_of_mem _ hu))
  refine ⟨_, g vs all, ?_⟩
  have q := p.map fun v => txOf (0, v)
  rw [List.map_map] at q
  exact q
theorem cr_sortedX (hc : X.calm = true) : CallR X (.builtin "sorted") (rSortedX X.prog X.w) := by
  intro pins s σ H vs us Q I r h
  obtain ⟨a, S, n, rfl, ha, small, q⟩ := h
  obtain ⟨ob, es, ep, t, e, ex, d, T, rfl⟩ := setX_get I ha
  rw [Vals.ref1 r]
  refine Calls.call_function_entry kind_sorted plain_sorted entry_sorted (args_sorted1 _) ?_
  unfold Builtin.«sorted»
  refine wpAny_bind (m := checkCount "sorted" 1 1 _) (wpAny_pure (wpAny_bind (collect_set (A := X.A.in1) (I.ok.hd hc) ⟨ob, e, ex.1, d⟩ T.fits T.few T.rises T.known fun s1 out kp sz gs os pm => ?_)))
  obtain ⟨xs, tx, px⟩ := txs_of T.all pm
  have ol : out.length = es.size := by rw [pm.length_eq, List.length_map, Array.length_toList]
  refine wpAny_bind (wpAny_newList ?_ (by rw [ol, sizeLine_eq]; omega))
  have at1 : (s1.heap.push (seqObj "list" out.toArray 0)).get? s1.heap.objs.size = some (seqObj "list" out.toArray 0) := Heap.get?_push_size _ rfl
  refine wpAny_bind (wpAny_holding (wpAny_call_entry slot_list_sort ⟨_, at1, rfl⟩ entry_list_sort (list_sort_treeK strKind_oneLt at1 tx.keysOf (fun v₁ v₂ rest e' => keyKind_strs (by rw [← e']; exact tx)) (by rw [ol]; exact small) fun st pp so => ⟨_, rfl, ?_⟩) (args_list_sort _)))
  obtain ⟨ys, ty, py, sy⟩ := sorted_out_str tx pp so
  obtain ⟨c, at2⟩ := sortedHeap_at (vs := out) (out := (arrOf st).map (·.2)) at1
  have pk : ys.Perm (es.toList.map txOf) := py.trans px
  have yl : ys.length = es.size := by rw [pk.length_eq, List.length_map, Array.length_toList]
  have kp2 : ∀ b u, s.heap.get? b = some u → (sortedHeap (s1.heap.push (seqObj "list" out.toArray 0)) s1.heap.objs.size out ((arrOf st).map (·.2))).get? b = some u := fun b u z => by
    have z1 := kp b u z
    have lt := Heap.lt_size z1
    rw [sortedHeap_old (Nat.ne_of_lt lt) (by rw [size_push']; exact Nat.lt_succ_of_lt lt)]
    exact Heap.get?_push_of_some _ z1
  have hn : H s1.heap.objs.size = none := I.hok.fresh sz
  refine wpAny_pure ⟨_, rfl, ⟨.ref s1.heap.objs.size, upd H s1.heap.objs.size (.lst (ys.map V.str)), ?_, rfl, q ys _ ⟨sy, pk.nodup_iff.mpr T.once⟩ (fun x => by rw [pk.mem_iff, ← T.just x]) yl hn⟩⟩
  have ok : ObjOk X.prog X.w (upd H s1.heap.objs.size (.lst (ys.map V.str))) (sortedHeap (s1.heap.push (seqObj "list" out.toArray 0)) s1.heap.objs.size out ((arrOf st).map (·.2))) s1.heap.objs.size (.lst (ys.map V.str)) :=
    ⟨by rw [List.length_map, yl, sizeLine_eq]; omega, ((arrOf st).map (·.2)).toList, c, vals_of_strs ty, at2⟩
  exact I.call' (ch := []) os (Un.laid kp2 sz hn) (I.hok.laid kp2 sz ok) (by show AllBare s1.gens; rw [gs]; exact I.bare) (fun _ z => nomatch z)
end
end Txs


namespace Txs
open PySem PySem.Spec PyProof.Rows L2
/-! {elt for target in iter if ..} whose elements are texts -/
/-- how a turn hands its text on: D the set, Nx what follows -/
def inTo (P : Program) (w : World) (D : Addr) (Nx : Hp → Prop) : VK := fun y H => ∃ (x : Str) (S : Str → Bool) (n : Nat), y = .str x ∧ H D = some (SetX P w D S n) ∧ n + 1 < scanBound ∧
  Nx (upd H D (SetX P w D (fun z => S z || decide (z = x)) (if S x = true then n else n + 1)))
def turnX (P : Program) (w : World) (g : TG) (tt : TT) (te : TE) (σ : L2.St) (vs : List Nat) (D : Addr) (Nx : Hp → Prop) (x : V) (H : Hp) : Prop :=
  g x (wipe σ vs) H fun σ2 H2 => wipe σ2 vs = wipe σ vs ∧ tt σ2 H2 fun b H3 => if b = true then te σ2 H3 (inTo P w D Nx) else Nx H3
def tScX (P : Program) (w : World) (wi : TI) (g : TG) (tt : TT) (te : TE) (vs : List Nat) : TE := fun σ H Q => wi σ H fun J H1 => ∀ D, H1 D = none → ∃ W : Nat → Nat → Hp → Prop, (∃ m, W 0 m (upd H1 D (SetX P w D (fun _ => false) 0))) ∧
  ∀ i m H, W i m H → (J.stop i H ∧ Q (.ref D) H) ∨ (J.go i H ∧ ∃ Nx : Hp → Prop, (∀ H', Nx H' → ∃ m', m' < m ∧ W (i + 1) m' H') ∧ ∀ x H', J.yld i H x H' → turnX P w g tt te σ vs D Nx x H')
section
variable {X : Cx}
theorem add_in {pins : List (Addr × Obj)} {σ : L2.St} {H : Hp} {s : Shared} {E : Value → Shared → Prop} {D : Addr} {u : Value} {v : V} {Nx : Hp → Prop} {R : Value → Shared → Prop} (I : Inv X pins σ H s) (r : RelV v u) (h : inTo X.prog X.w D Nx v H)
    (k : ∀ s' H', Inv X pins σ H' s' → Nx H' → R .none s') : wpAny (model X.prog X.w) X.A (call (.builtin "set.add") [.ref D, u]) R E s := by
  obtain ⟨x, S, n, rfl, hD, room, nx⟩ := h
  obtain ⟨tk, rfl⟩ := r
  refine add_call (setX_get I hD) room fun h' sb T => k _ _ (I.write (e := D) (t' := s.toks + 1) (by rw [hD]; trivial) (.inl rfl) (fun b ob ne z => (sb.2 b ne).trans z) ?_ (setX_new T)) nx
  obtain ⟨ob, _, _, _, z, _⟩ := T
  exact ⟨ob, z⟩
theorem pe_scX {elt tg iter : Expr} {ifs : List Expr} {scope : Scope} {own : List (PySem.Str × Nat)} {pos : Pos} {wi : TI} {g : TG} {tt : TT} {te : TE} (hc : X.calm = true) (hN : X.N.Nodup) (hi : PI X tg iter wi) (ok : BlkOk X.N X.env.scope scope own)
    (hg : ∀ s H C cl fp, PG (X.blk s H scope (compEnvC scope cl C X.env) fp) tg g) (ht : ∀ s H C cl fp, PTs (X.blk s H scope (compEnvC scope cl C X.env) fp) ifs tt)
    (he : ∀ s H C cl fp, PE (X.blk s H scope (compEnvC scope cl C X.env) fp) elt te) (hs : ∀ x, foldedSetIterable iter X.env x = pure x := by intro _; rfl) :
    PE X (.SetComp elt [⟨tg, iter, ifs, 0⟩] scope pos) (tScX X.prog X.w wi g tt te (own.map (·.2))) := by
  refine ⟨fun pins s σ H Q I h => ?_⟩
  have frees : ∀ y ∈ scope.names, y.2 = .free → ∃ c, X.env.cells.lookup y.1 = some c := fun y hy e => (ok.free y hy e).elim (fun k => I.ok.has _ (.inl k)) fun k => I.ok.has _ (.inr k)
  rw [PpSet.eval_SetComp]
  refine wpAny_comprehension_free rfl hs (closure_ok frees) ok.kind (fun y hy e => by rw [ok.uniq y hy, e]) (thn (hi.run pins s σ H _ I h) fun xv s1 hx => thn hx fun itv s2 ⟨it, fp, tn, J, H2, e, I2, T, st2, f2, q⟩ => ?_)
  subst e
  refine PpSet.newSet_ok (newEnv_comp ?_)
  generalize hD : s2.heap.objs.size = D
  have Dn : H2 D = none := I2.hok.fresh (Nat.le_of_eq hD)
  obtain ⟨W, ⟨m0, w0⟩, turn⟩ := q D Dn
  -- the state with the new, empty set
  generalize es3 : ({ s2 with heap := s2.heap.push (eSet X.w) } : Shared) = s3
  have hp3 : s3.heap = s2.heap.push (eSet X.w) := by rw [← es3]
  have I3 : Inv X pins σ (upd H2 D (SetX X.prog X.w D (fun _ => false) 0)) s3 := by
    rw [← es3]
    exact I2.laid (t' := s2.toks) (fun b o z => Heap.get?_push_of_some _ z) (Nat.le_of_eq hD) (by rw [← hD]; exact setX_new (eSet_ok X.w))
  have f3 : ∀ b ∈ fp, FpOk X pins (upd H2 D (SetX X.prog X.w D (fun _ => false) 0)) b ∧ b < s3.heap.objs.size := fun b hb => by
    obtain ⟨o, z, _⟩ := T.obj _ _ st2 b hb
    have lt := Heap.lt_size z
    exact ⟨⟨(upd_ne (by rw [← hD]; exact Nat.ne_of_lt lt)).trans (f2 b hb).1, (f2 b hb).2⟩, by rw [hp3, Heap.size_push]; exact Nat.lt_succ_of_lt lt⟩
  have st3 : tn 0 s3.heap := T.keep _ _ _ st2 fun b _ o z => by rw [hp3]; exact Heap.get?_push_of_some _ z
  -- the block's own context
  have I4 := block_start I3 ok hN f3
  generalize hH3 : upd H2 D (SetX X.prog X.w D (fun _ => false) 0) = H3 at I3 I4 w0 f3
  have n3 : ∀ b ∈ fp, H3 b = none := fun b hb => (f3 b hb).1.1
  show codeAny _ _ (.compStart (.SetComp elt [⟨tg, iter, ifs, 0⟩] scope pos) 0 (.ref it) (.ref D) (compEnvC scope (cellsFrom (s3.heap.objs.size + 1) scope.names (cloFrom X.env.cells scope.names [])) s3.heap.objs.size X.env)) (compPost (model X.prog X.w) X.A X.xe none (EP X pins σ Q) (.ref D) s3.heap.objs.size)
    { s3 with heap := pushCells (s3.heap.push { cls := .type "dict", data := .dict #[] }) scope.names }
  have pg := hg s3 H3 s3.heap.objs.size (cellsFrom (s3.heap.objs.size + 1) scope.names (cloFrom X.env.cells scope.names [])) fp
  have pt := ht s3 H3 s3.heap.objs.size (cellsFrom (s3.heap.objs.size + 1) scope.names (cloFrom X.env.cells scope.names [])) fp
  have pe := he s3 H3 s3.heap.objs.size (cellsFrom (s3.heap.objs.size + 1) scope.names (cloFrom X.env.cells scope.names [])) fp
  generalize hce : compEnvC scope (cellsFrom (s3.heap.objs.size + 1) scope.names (cloFrom X.env.cells scope.names [])) s3.heap.objs.size X.env = ce at I4 pg pt pe ⊢
  have cL : ce.locals = s3.heap.objs.size := by rw [← hce]; rfl
  generalize es4 : ({ s3 with heap := pushCells (s3.heap.push { cls := .type "dict", data := .dict #[] }) scope.names } : Shared) = s4 at I4 ⊢
  have st4 : tn 0 s4.heap := T.keep _ _ _ st3 fun b _ o z => by rw [← es4]; exact pushCells_keeps _ _ _ _ (Heap.get?_push_of_some _ z)
  let B : Cx := X.blk s3 H3 scope ce fp
  have fpk : ∀ {σ' : L2.St} {H' : Hp} {s' : Shared}, Inv B [] σ' H' s' → (∀ b ∈ fp, H' b = none) → ∀ b ∈ fp, FpOk B [] H' b := fun I' hn b hb =>
    ⟨hn b hb, (I'.ok.exf b hb).1, I'.ok.exfs b hb, .inl hb, fun x c z => (I'.ok.exf b hb).2 x c z, fun p hp => absurd (show p ∈ ([] : List (Addr × Obj)) ++ [] from hp) (by simp)⟩
  let Z : Nat → Shared → Prop := fun n s' => ∃ i H', Inv B [] (wipe σ (own.map (·.2))) H' s' ∧ tn i s'.heap ∧ (∀ b ∈ fp, H' b = none) ∧ W i n H'
  have loop : codeAny (model X.prog X.w) X.A (.compLoop (.SetComp elt [⟨tg, iter, ifs, 0⟩] scope pos) 0 (.ref it) (.ref D) ce) (compPost (model X.prog X.w) X.A X.xe none (EP X pins σ Q) (.ref D) s3.heap.objs.size) s4 := by
    refine PpSet.compLoopS_any Z ?_ m0 ⟨0, H3, I4, st4, n3, w0⟩
    rintro n s5 ⟨i, H5, I5, st5, n5, w5⟩
    rcases turn i n H5 w5 with ⟨stop, qq⟩ | ⟨go, Nx, hNx, step⟩
    · refine thnF (T.done B rfl rfl rfl hc i [] s5 _ H5 (fun _ _ => False) I5 (fpk I5 n5) st5 stop) fun r s6 ⟨hr, I6⟩ => ?_
      subst hr
      have I7 : Inv X pins σ H5 s6 := I3.call' (ch := fp) I6.os I6.base I6.hok I6.bare fun b hb => let ⟨_, u1, _, u3, u4, u5⟩ := (f3 b hb).1; ⟨u3, u1, u4, u5⟩
      have nC : H5 s3.heap.objs.size = none := by
        rw [← cL]; exact I6.free
      obtain ⟨m, hn, _⟩ := I6.loc
      have hn : s6.heap.Ns s3.heap.objs.size m := by
        rw [← cL]; exact hn
      obtain ⟨k0, k1, k2, k3, k4, k5⟩ := I3.fpOk (Nat.le_refl _) nC
      exact ⟨m, hn, fun h'' sb => ⟨.ref D, H5, I7.turned (t' := s6.toks) (fun b o hb z => (sb.2 b hb).trans z) k0 k1 k3 k4 k5, rfl, qq⟩⟩
    · refine thnF (T.item B rfl rfl rfl hc i [] s5 _ H5 (fun _ _ => False) I5 (fpk I5 n5) st5 go) fun r s6 ⟨u, hr, h6⟩ => ?_
      subst hr
      refine thnF h6 fun _ s7 ⟨x, H7, I7, r7, y7, st7, n7⟩ => ?_
      refine thnF (pg.run _ s7 _ H7 x u _ (I7.pinned (fpk I7 n7) (T.obj _ _ st7)) r7 (step x H7 y7)) fun _ s8 ⟨σ8, H8, I8, w8, q8⟩ => ?_
      refine thnF (pt.run _ s8 σ8 H8 _ I8 q8) fun b s9 ⟨H9, I9, q9⟩ => ?_
      have fin : ∀ (s' : Shared) (H' : Hp), Inv B ([] ++ pinsAt fp s7.heap) σ8 H' s' → Nx H' → ∃ m, m < n ∧ Z m s' := fun s' H' I' nx => by
        obtain ⟨m', lt, w'⟩ := hNx H' nx
        have still : ∀ b ∈ fp, ∀ o, s7.heap.get? b = some o → s'.heap.get? b = some o ∧ H' b = none := fun b hb o z => by
          have y := I'.pin (b, o) (List.mem_append_right _ (List.mem_append_right _ (mem_pinsAt hb z)))
          exact ⟨y.1, y.2.1⟩
        refine ⟨m', lt, i + 1, H', (I'.unpinned (pins := [])).weak (by rw [← w8, wipe_length]) (fun j v z => ?_), T.keep _ _ _ st7 fun b hb o z => (still b hb o z).1, fun b hb => ?_, w'⟩
        · rw [← w8] at z
          exact (wipe_some z).1
        · obtain ⟨o, z, _⟩ := T.obj _ _ st7 b hb
          exact (still b hb o z).2
      cases b
      · exact fin _ _ I9 q9
      · exact thnF (pe.run _ s9 σ8 H9 _ I9 q9) fun z s10 ⟨v, H10, I10, r10, q10⟩ => add_in (X := B) I10 r10 q10 fin
  exact PpSet.codeAny_compStart_set loop (T.self X.A 0 _ _ _ st4 loop)
end
end Txs


/-! A row that is a list or a tuple: walked, numbered, sorted, copied. -/
namespace Txs
open PySem PySem.Spec PyProof.Rows L2
/-- a list or a tuple of xs stands at a -/
def Sq (K : PySem.W.Frag) (H : Hp) (a : Addr) (xs : List V) : Prop := SqL K H a xs ∨ SqT K H a xs
theorem sqL_keep {K : PySem.W.Frag} {H H' : Hp} {a : Addr} {xs : List V} (h : SqL K H a xs) (k : ∀ o, H a = some o → H' a = some o) : SqL K H' a xs := by
  rcases h with (h | ⟨o, h⟩) | h
  · exact .inl (.inl (k _ h))
  · exact .inl (.inr ⟨o, k _ h⟩)
  · exact .inr h
theorem sqT_keep {K : PySem.W.Frag} {H H' : Hp} {a : Addr} {xs : List V} (h : SqT K H a xs) (k : ∀ o, H a = some o → H' a = some o) : SqT K H' a xs := by
  rcases h with (h | ⟨o, h⟩) | h
  · exact .inl (.inl (k _ h))
  · exact .inl (.inr ⟨o, k _ h⟩)
  · exact .inr h
theorem Sq.keep {K : PySem.W.Frag} {H H' : Hp} {a : Addr} {xs : List V} (h : Sq K H a xs) (k : ∀ o, H a = some o → H' a = some o) : Sq K H' a xs := h.imp (fun h => sqL_keep h k) fun h => sqT_keep h k
theorem Sq.same {K : PySem.W.Frag} {H H' : Hp} {a : Addr} {xs : List V} (h : Sq K H a xs) (k : Same H H') : Sq K H' a xs := h.keep fun o e => k _ _ e
/-! ### for x in xs -/
def iSeq (K : PySem.W.Frag) (tl : TE) : TI := fun σ H R => tl σ H fun x H1 => ∃ a, x = .ref a ∧ (((∃ xs, SqL K H1 a xs) ∧ R (Itl K a) H1) ∨ ((∃ xs, SqT K H1 a xs) ∧ R (Itt K a) H1))
section
variable {X : Cx} {tg : Expr}
theorem pi_seq {l : Expr} {tl : TE} (hl : PE X l tl) : PI X tg l (iSeq X.K tl) := by
  refine ⟨fun pins s σ H R I h => thn (hl.run pins s σ H _ I h) fun v s1 ⟨x, H1, I1, r1, a, ex, q⟩ => ?_⟩
  subst ex
  cases r1
  have fp : ∀ b ∈ [s1.heap.objs.size], FpOk X pins H1 b := fun b hb => by
    rw [List.mem_singleton.mp hb]
    exact I1.fpOk (Nat.le_refl _) (I1.hok.fresh (Nat.le_refl _))
  rcases q with ⟨⟨xs, hq⟩, q⟩ | ⟨⟨xs, hq⟩, q⟩
  · obtain ⟨its, _, pl, _⟩ := I1.list hq
    exact wpAny_pyIter_list pl.isList ⟨_, [_], _, _, H1, rfl, I1.kept (t' := s1.toks) fun b o e => Heap.get?_push_of_some _ e, turn_list a _, ⟨_, Heap.get?_push_size _ rfl, rfl, rfl⟩, fp, q⟩
  · obtain ⟨its, _, pl, _⟩ := I1.tuple hq
    exact wpAny_pyIter_tuple (show s1.heap.IsTuple a its.toArray from pl) ⟨_, [_], _, _, H1, rfl, I1.kept (t' := s1.toks) fun b o e => Heap.get?_push_of_some _ e, turn_tuple a _, ⟨_, Heap.get?_push_size _ rfl, rfl, rfl⟩, fp, q⟩
end
/-! ### for i, x in enumerate(tuple) -/
def ItE (K : PySem.W.Frag) (a : Addr) : It :=
  ⟨fun i H => ∃ xs x, SqT K H a xs ∧ xs[i]? = some x, fun i H v H' => ∃ T x, v = .ref T ∧ H T = none ∧ H' = upd H T (.tup [.int (i : Nat), x]) ∧ ∀ xs, SqT K H a xs → xs[i]? = some x, fun i H => ∃ xs, SqT K H a xs ∧ xs.length = i⟩
set_option maxHeartbeats 1000000 in
theorem meets_enum1 {v : Value} {o : Obj} {Z : Heap → Prop} (B : Begins v o Z) : Meets (Builtin.«enumerate.__new__» ⟨[.type "enumerate", v], []⟩) (fun _ R s => Z s.heap ∧
    R (.ok (.ret (.ref (s.heap.push o).objs.size))) { s with heap := (s.heap.push o).push { cls := .type "enumerate", data := .fields #[.none, .bool false, .ref s.heap.objs.size, rawInt 0, .none, .none] } }) :=
  .of_wp fun prog w A R s ⟨z, h⟩ => by
    obtain ⟨hp, g, d, tk, os⟩ := s
    have sub_ := sub_enumerate
    have it_ : ∀ {A' : Around} {E : Value → Shared → Prop} {Q : Value → Shared → Prop}, Q (.ref hp.objs.size) ⟨hp.push o, g, d, tk, os⟩ → wpAny (model prog w) A' (pyIter v) Q E ⟨hp, g, d, tk, os⟩ := fun q => B.iter prog w _ _ ⟨hp, g, d, tk, os⟩ _ z q
    wp_walk using it_
    refine wpAny_stack_any fun st => wpAny_pure ?_
    split
    · rename_i c _ _ _ _ _
      cases (c == Value.type "enumerate") <;>
      · wp_walk using it_
        exact ⟨_, rfl, h⟩
    · wp_walk using it_
      exact ⟨_, rfl, h⟩
section
variable {P : Program} {w : World} {A : Around} {E : Value → Shared → Prop} {s : Shared}
theorem call_enum1 {v : Value} {o : Obj} {Z : Heap → Prop} {Q : Value → Shared → Prop} (B : Begins v o Z) (z : Z s.heap)
    (k : ∀ h', IsEnum h' (s.heap.objs.size + 1) s.heap.objs.size 0 .none → h'.get? s.heap.objs.size = some o → (∀ b u, s.heap.get? b = some u → h'.get? b = some u) → Q (.ref (s.heap.objs.size + 1)) { s with heap := h' }) :
    wpAny (model P w) A (call (.type "enumerate") [v]) Q E s := by
  have sz : (s.heap.push o).objs.size = s.heap.objs.size + 1 := Heap.size_push ..
  refine callType_new F.called_enumerate (by decide) (F.typeCall_enumerate_1 _) (F.newCall_enumerate_1 _) (fun obj => F.args_object_init_2 obj _) F.entry_enumerate_new (meets_enum1 B) ⟨z, show _ ∧ _ from ?_⟩
  have he : IsEnum ((s.heap.push o).push { cls := .type "enumerate", data := .fields #[.none, .bool false, .ref s.heap.objs.size, rawInt 0, .none, .none] }) (s.heap.objs.size + 1) s.heap.objs.size 0 .none := by
    rw [← sz]
    exact Heap.get?_push_size _ rfl
  rw [sz]
  exact ⟨⟨_, he, rfl⟩, k _ he (Heap.get?_push_of_some _ (Heap.get?_push_size _ B.free)) fun b u e => Heap.get?_push_of_some _ (Heap.get?_push_of_some _ e)⟩
end
theorem turn_enumT {P : Program} {w : World} {K : PySem.W.Frag} {elts : List Expr} {kk : Nat} {tpos : Pos} (a e it : Addr) :
    Turn P w K (.Tuple elts kk tpos) (ItE K a) [e, it] e (fun i h => (∃ old, IsEnum h e it ((i : Nat) : Int) old) ∧ h.IsTupleIter it a i ∧ e ≠ it ∧ a ≠ it ∧ e ≠ a) where
  mem := by simp
  obj := fun i h ⟨⟨old, he⟩, ⟨o, ho, _, hd⟩, _⟩ b hb => by
    rcases List.mem_cons.mp hb with rfl | hb
    · exact ⟨_, he, fun v q => nomatch q⟩
    · rw [List.mem_singleton.mp hb]
      exact ⟨o, ho, fun v q => by rw [hd] at q; cases q⟩
  keep := fun i h h' ⟨⟨old, he⟩, hi, n⟩ k => ⟨⟨old, k e (by simp) _ he⟩, hi.at fun o q => k it (by simp) o q, n⟩
  item := by
    rintro X rfl rfl rfl hc i pins s σ H E I hf ⟨⟨old, he⟩, hit, n1, n2, n3⟩ ⟨xs, x, hq, hx⟩
    obtain ⟨its, rv, pt, _⟩ := I.tuple hq
    obtain ⟨u, hu, ru⟩ := rv.get hx
    have ht : s.heap.IsTuple a its.toArray := pt
    have lt : i < its.toArray.size := by
      have := (List.getElem?_eq_some_iff.mp hu).1
      simpa using this
    have W := WalksT.enumFrom (prog := X.prog) (w := X.w) (A := X.A) 0 (Draws.tuple (show X.A.in1.handled = none from I.ok.hd hc) it a n2 its.toArray) e n1 (by simp [n1, n3]) (by simp)
    refine W.item i s _ _ lt ⟨⟨old, by rw [Int.zero_add]; exact he⟩, hit, ht⟩ fun T vals h' tk ⟨t, y, hy, ev⟩ sz isT mid kp => ⟨_, rfl, W.go elts kk tpos i T _ _ _ mid fun h2 ⟨⟨old2, he2⟩, hit2, _⟩ kp2 => ?_⟩
    subst ev
    have ey : y = u := by
      have hy : its.toArray[i]? = some y := hy
      rw [List.getElem?_toArray, hu] at hy
      exact (Option.some.inj hy).symm
    subst ey
    have kk2 : ∀ b o, b ∉ [e, it] → s.heap.get? b = some o → h2.get? b = some o := fun b o nb q => kp2 b o nb (kp b o nb q)
    have isT2 : IsTup h2 T #[.int (0 + (i : Int)) t, y] := isT.at fun o q => kp2 T o (W.apart i T h' mid) q
    have new : ObjOk X.prog X.w (upd H T (.tup [.int (i : Nat), x])) h2 T (.tup [.int (i : Nat), x]) :=
      ⟨by show 2 ≤ sizeLine; decide, [.int (0 + (i : Int)) t, y], .cons ⟨t, by rw [Int.zero_add]⟩ (.cons ru .nil), isT2⟩
    have I2 := I.turnedNew (t' := tk) (ch := [e, it]) kk2 hf sz new
    have lts : ∀ b ∈ [e, it], b < s.heap.objs.size := fun b hb => by
      rcases List.mem_cons.mp hb with rfl | hb
      · exact Heap.lt_size he
      · rw [List.mem_singleton.mp hb]
        obtain ⟨_, q, _⟩ := hit
        exact Heap.lt_size q
    refine ⟨.ref T, _, I2, rfl, ⟨T, x, rfl, I.hok.fresh sz, rfl, fun ys hy => by rw [I.tuple_inj hy hq]; exact hx⟩, ⟨⟨old2, ?_⟩, hit2, n1, n2, n3⟩, fun b hb => ?_⟩
    · have e1 : ((i + 1 : Nat) : Int) = 0 + ((i + 1 : Nat) : Int) := by omega
      rw [e1]; exact he2
    · rw [upd_ne (Nat.ne_of_lt (Nat.lt_of_lt_of_le (lts b hb) sz))]
      exact (hf b hb).1
  done := by
    rintro X rfl rfl rfl hc i pins s σ H E I hf ⟨⟨old, he⟩, hit, n1, n2, n3⟩ ⟨xs, hq, hx⟩
    obtain ⟨its, rv, pt, _⟩ := I.tuple hq
    have ht : s.heap.IsTuple a its.toArray := pt
    have n : i = its.toArray.size := by rw [← hx, rv.length, List.size_toArray]
    have W := WalksT.enumFrom (prog := X.prog) (w := X.w) (A := X.A) 0 (Draws.tuple (show X.A.in1.handled = none from I.ok.hd hc) it a n2 its.toArray) e n1 (by simp [n1, n3]) (by simp)
    refine W.done s _ _ ⟨⟨old, by rw [Int.zero_add, ← n]; exact he⟩, by rw [← n]; exact hit, ht⟩ fun h' tk kp => ⟨rfl, I.turnedL (t' := tk) (ch := [e, it]) kp hf⟩
  self := fun A i s Q E ⟨⟨_, he⟩, _⟩ h => wpAny_pyIter_enum he h
def iEnS (K : PySem.W.Frag) (ta : TA) : TI := fun σ H R => ta σ H fun vs H1 => ∃ a, vs = [.ref a] ∧ (((∃ xs, SqL K H1 a xs) ∧ R (Ite K a) H1) ∨ ((∃ xs, SqT K H1 a xs) ∧ R (ItE K a) H1))
theorem pi_enumS {X : Cx} {e : Expr} {ta : TA} {p pos tpos : Pos} {elts : List Expr} {kk : Nat} (hg : Gl X "enumerate") (hm : X.mg "enumerate" = none) (ha : PA X [e] ta) (hs : starEach [e] X.env = [(false, eval e X.env)] := by rfl) :
    PI X (.Tuple elts kk tpos) (.Call (.Name "enumerate" p) [e] [] pos) (iEnS X.K ta) := by
  refine ⟨fun pins s σ H R I h => Call_ (ld_blt I hg hm boot_enumerate (PyProof.Rows.callWith_type1 (thn (ha.run pos pins s σ H _ I h) fun us s1 ⟨vs, H1, I1, r1, a, ex, q⟩ => ?_) hs rfl))⟩
  subst ex
  rw [Vals.ref1 r1]
  have fp : ∀ b ∈ [s1.heap.objs.size + 1, s1.heap.objs.size], FpOk X pins H1 b := fun b hb => by
    have le : s1.heap.objs.size ≤ b := by
      rcases List.mem_cons.mp hb with rfl | hb
      · exact Nat.le_add_right _ _
      · rw [List.mem_singleton.mp hb]; exact Nat.le_refl _
    exact I1.fpOk le (I1.hok.fresh le)
  rcases q with ⟨⟨xs, hq⟩, q⟩ | ⟨⟨xs, hq⟩, q⟩
  · obtain ⟨its, _, pl, _⟩ := I1.list hq
    exact call_enumerate_list pl.isList fun h' he hit _ kp => wpAny_pyIter_enum he ⟨_, [_, _], _, _, H1, rfl, I1.kept (t' := s1.toks) kp, turn_enum a _ _, ⟨⟨.none, he⟩, hit, Nat.succ_ne_self _⟩, fp, q⟩
  · obtain ⟨its, _, pt, _⟩ := I1.tuple hq
    have ht : s1.heap.IsTuple a its.toArray := pt
    have lt : a < s1.heap.objs.size := by
      obtain ⟨o, e, _⟩ := id ht
      exact Heap.lt_size e
    exact call_enum1 (begins_tuple a its.toArray) ht fun h' he hit kp => wpAny_pyIter_enum he ⟨_, [_, _], _, _, H1, rfl, I1.kept (t' := s1.toks) kp, turn_enumT a _ _,
      ⟨⟨.none, he⟩, ⟨_, hit, rfl, rfl⟩, Nat.succ_ne_self _, Nat.ne_of_lt lt, Nat.ne_of_gt (Nat.lt_succ_of_lt lt)⟩, fp, q⟩
/-! ### the loops -/
section
variable {K : PySem.W.Frag} {a : Addr} {xs : List V} {g : TG} {tb : TS} {D : Ends} {σ : L2.St} {H H0 : Hp}
/-- what a for over the walk J asks -/
def Loop (J : It) (g : TG) (tb : TS) (D : Ends) (σ : L2.St) (H : Hp) : Prop := ∃ W : Nat → Nat → L2.St → Hp → Prop, (∃ m, W 0 m σ H) ∧ ∀ i m σ H, W i m σ H →
  (J.stop i H ∧ D.nx σ H) ∨ (J.go i H ∧ ∃ N : L2.St → Hp → Prop, (∀ σ' H', N σ' H' → ∃ m', m' < m ∧ W (i + 1) m' σ' H') ∧ ∀ x H', J.yld i H x H' → g x σ H' fun σ2 H2 => tb { D with nx := N, ct := N, bk := D.nx } σ2 H2)
theorem for_seq (k : Sq K H0 a xs) (Pv : Nat → L2.St → Hp → Prop) (h0 : Pv 0 σ H) (hl : ∀ i σ' H', i ≤ xs.length → Pv i σ' H' → ∀ o, H0 a = some o → H' a = some o)
    (hs : ∀ i x σ H, xs[i]? = some x → Pv i σ H → g x σ H fun σ2 H2 => tb { D with nx := Pv (i + 1), ct := Pv (i + 1), bk := D.nx } σ2 H2) (hd : ∀ σ H, Pv xs.length σ H → D.nx σ H) :
    ((∃ xs, SqL K H a xs) ∧ Loop (Itl K a) g tb D σ H) ∨ ((∃ xs, SqT K H a xs) ∧ Loop (Itt K a) g tb D σ H) := by
  rcases k with k | k
  · exact .inl ⟨⟨_, sqL_keep k (hl 0 σ H (Nat.zero_le _) h0)⟩, for_list Pv h0 (fun i σ' H' hi p => sqL_keep k (hl i σ' H' hi p)) hs hd⟩
  · exact .inr ⟨⟨_, sqT_keep k (hl 0 σ H (Nat.zero_le _) h0)⟩, for_tup Pv h0 (fun i σ' H' hi p => sqT_keep k (hl i σ' H' hi p)) hs hd⟩
theorem for_enum (k : Sq K H0 a xs) (Pv : Nat → L2.St → Hp → Prop) (h0 : Pv 0 σ H) (hl : ∀ i σ' H', i ≤ xs.length → Pv i σ' H' → ∀ o, H0 a = some o → H' a = some o)
    (hs : ∀ i x σ H T, xs[i]? = some x → Pv i σ H → H T = none → g (.ref T) σ (upd H T (.tup [.int (i : Nat), x])) fun σ2 H2 => tb { D with nx := Pv (i + 1), ct := Pv (i + 1), bk := D.nx } σ2 H2) (hd : ∀ σ H, Pv xs.length σ H → D.nx σ H) :
    ((∃ xs, SqL K H a xs) ∧ Loop (Ite K a) g tb D σ H) ∨ ((∃ xs, SqT K H a xs) ∧ Loop (ItE K a) g tb D σ H) := by
  rcases k with k | k
  · refine .inl ⟨⟨_, sqL_keep k (hl 0 σ H (Nat.zero_le _) h0)⟩, fun i m σ H => m = xs.length - i ∧ i ≤ xs.length ∧ Pv i σ H, ⟨xs.length, by simp, Nat.zero_le _, h0⟩, ?_⟩
    rintro i m σ H ⟨rfl, hi, p⟩
    have q := sqL_keep k (hl i σ H hi p)
    by_cases lt : i < xs.length
    · refine .inr ⟨⟨xs, xs[i], q, by simp [lt]⟩, Pv (i + 1), fun σ' H' p' => ⟨_, by omega, rfl, lt, p'⟩, ?_⟩
      rintro x H' ⟨T, y, rfl, n, rfl, e⟩
      exact hs i y σ H T (e xs q) p n
    · obtain rfl : i = xs.length := by omega
      exact .inl ⟨⟨xs, q, Nat.le_refl _⟩, hd σ H p⟩
  · refine .inr ⟨⟨_, sqT_keep k (hl 0 σ H (Nat.zero_le _) h0)⟩, fun i m σ H => m = xs.length - i ∧ i ≤ xs.length ∧ Pv i σ H, ⟨xs.length, by simp, Nat.zero_le _, h0⟩, ?_⟩
    rintro i m σ H ⟨rfl, hi, p⟩
    have q := sqT_keep k (hl i σ H hi p)
    by_cases lt : i < xs.length
    · refine .inr ⟨⟨xs, xs[i], q, by simp [lt]⟩, Pv (i + 1), fun σ' H' p' => ⟨_, by omega, rfl, lt, p'⟩, ?_⟩
      rintro x H' ⟨T, y, rfl, n, rfl, e⟩
      exact hs i y σ H T (e xs q) p n
    · obtain rfl : i = xs.length := by omega
      exact .inl ⟨⟨xs, q, rfl⟩, hd σ H p⟩
end
section
variable {K : PySem.W.Frag} {a : Addr} {xs : List V} {g : TG} {tt : TT} {te : TE} {vs : List Nat} {σ : L2.St} {H H0 : Hp} {Q : Addr → Hp → Prop}
def LcOf (J : It) (g : TG) (tt : TT) (te : TE) (vs : List Nat) (σ : L2.St) (H : Hp) (Q : Addr → Hp → Prop) : Prop := ∀ D, H D = none → ∃ W : Nat → Nat → Hp → Prop, (∃ m, W 0 m (upd H D (.lst []))) ∧ ∀ i m H, W i m H →
  (J.stop i H ∧ Q D H) ∨ (J.go i H ∧ ∃ Nx : Hp → Prop, (∀ H', Nx H' → ∃ m', m' < m ∧ W (i + 1) m' H') ∧ ∀ x H', J.yld i H x H' → g x (wipe σ vs) H' fun σ2 H2 => wipe σ2 vs = wipe σ vs ∧ tt σ2 H2 fun b H3 =>
    if b = true then te σ2 H3 fun y H4 => ∃ acc, H4 D = some (.lst acc) ∧ acc.length < sizeLine ∧ Nx (upd H4 D (.lst (acc ++ [y]))) else Nx H3)
theorem lc_seq (k : Sq K H0 a xs) (hb : ∀ o, H0 a = some o → H a = some o) (Pv : Addr → Nat → Hp → Prop) (h0 : ∀ D, H D = none → Pv D 0 (upd H D (.lst []))) (hl : ∀ D i H', H D = none → i ≤ xs.length → Pv D i H' → ∀ o, H0 a = some o → H' a = some o)
    (hs : ∀ D i x H', H D = none → xs[i]? = some x → Pv D i H' → g x (wipe σ vs) H' fun σ2 H2 => wipe σ2 vs = wipe σ vs ∧ tt σ2 H2 fun b H3 =>
      if b = true then te σ2 H3 fun y H4 => ∃ acc, H4 D = some (.lst acc) ∧ acc.length < sizeLine ∧ Pv D (i + 1) (upd H4 D (.lst (acc ++ [y]))) else Pv D (i + 1) H3) (hd : ∀ D H', H D = none → Pv D xs.length H' → Q D H') :
    ((∃ xs, SqL K H a xs) ∧ LcOf (Itl K a) g tt te vs σ H Q) ∨ ((∃ xs, SqT K H a xs) ∧ LcOf (Itt K a) g tt te vs σ H Q) := by
  rcases k with k | k
  · exact .inl ⟨⟨_, sqL_keep k hb⟩, fun D hD => lc_list (Pv D) (h0 D hD) (fun i H' hi p => sqL_keep k (hl D i H' hD hi p)) (fun i x H' e p => hs D i x H' hD e p) fun H' p => hd D H' hD p⟩
  · exact .inr ⟨⟨_, sqT_keep k hb⟩, fun D hD => lc_tup (Pv D) (h0 D hD) (fun i H' hi p => sqT_keep k (hl D i H' hD hi p)) (fun i x H' e p => hs D i x H' hD e p) fun H' p => hd D H' hD p⟩
def ScOf (P : Program) (w : World) (J : It) (g : TG) (tt : TT) (te : TE) (vs : List Nat) (σ : L2.St) (H : Hp) (Q : Addr → Hp → Prop) : Prop := ∀ D, H D = none → ∃ W : Nat → Nat → Hp → Prop, (∃ m, W 0 m (upd H D (SetX P w D (fun _ => false) 0))) ∧
  ∀ i m H, W i m H → (J.stop i H ∧ Q D H) ∨ (J.go i H ∧ ∃ Nx : Hp → Prop, (∀ H', Nx H' → ∃ m', m' < m ∧ W (i + 1) m' H') ∧ ∀ x H', J.yld i H x H' → turnX P w g tt te σ vs D Nx x H')
theorem sc_seq {P : Program} {w : World} (k : Sq K H0 a xs) (hb : ∀ o, H0 a = some o → H a = some o) (Pv : Addr → Nat → Hp → Prop) (h0 : ∀ D, H D = none → Pv D 0 (upd H D (SetX P w D (fun _ => false) 0))) (hl : ∀ D i H', H D = none → i ≤ xs.length → Pv D i H' → ∀ o, H0 a = some o → H' a = some o)
    (hs : ∀ D i x H', H D = none → xs[i]? = some x → Pv D i H' → turnX P w g tt te σ vs D (Pv D (i + 1)) x H') (hd : ∀ D H', H D = none → Pv D xs.length H' → Q D H') :
    ((∃ xs, SqL K H a xs) ∧ ScOf P w (Itl K a) g tt te vs σ H Q) ∨ ((∃ xs, SqT K H a xs) ∧ ScOf P w (Itt K a) g tt te vs σ H Q) := by
  rcases k with k | k
  · refine .inl ⟨⟨_, sqL_keep k hb⟩, fun D hD => ⟨fun i m H' => m = xs.length - i ∧ i ≤ xs.length ∧ Pv D i H', ⟨xs.length, by simp, Nat.zero_le _, h0 D hD⟩, ?_⟩⟩
    rintro i m H' ⟨rfl, hi, p⟩
    have q := sqL_keep k (hl D i H' hD hi p)
    by_cases lt : i < xs.length
    · refine .inr ⟨⟨xs, xs[i], q, by simp [lt]⟩, Pv D (i + 1), fun H'' p' => ⟨_, by omega, rfl, lt, p'⟩, ?_⟩
      rintro x _ ⟨rfl, e⟩
      exact hs D i x _ hD (e xs q) p
    · obtain rfl : i = xs.length := by omega
      exact .inl ⟨⟨xs, q, Nat.le_refl _⟩, hd D H' hD p⟩
  · refine .inr ⟨⟨_, sqT_keep k hb⟩, fun D hD => ⟨fun i m H' => m = xs.length - i ∧ i ≤ xs.length ∧ Pv D i H', ⟨xs.length, by simp, Nat.zero_le _, h0 D hD⟩, ?_⟩⟩
    rintro i m H' ⟨rfl, hi, p⟩
    have q := sqT_keep k (hl D i H' hD hi p)
    by_cases lt : i < xs.length
    · refine .inr ⟨⟨xs, xs[i], q, by simp [lt]⟩, Pv D (i + 1), fun H'' p' => ⟨_, by omega, rfl, lt, p'⟩, ?_⟩
      rintro x _ ⟨rfl, e⟩
      exact hs D i x _ hD (e xs q) p
    · obtain rfl : i = xs.length := by omega
      exact .inl ⟨⟨xs, q, Nat.le_refl _⟩, hd D H' hD p⟩
end
end Txs


namespace Txs
open PySem PySem.Spec PyProof.Rows L2
section
variable {P : Program} {w : World} {A : Around} {E : Value → Shared → Prop} {s : Shared}
/-- a tuple's items, collected -/
theorem collect_tup {l : Addr} {vs : List Value} {Q : List Value → Shared → Prop} (hl : s.heap.IsTuple l vs.toArray) (sz : vs.length ≤ sizeLine)
    (k : Q vs { s with heap := (s.heap.push (seqObj "list" #[] 0)).update s.heap.objs.size (Obj.mapSeq (· ++ vs.toArray)) }) : wpAny (model P w) A (collect (.ref l)) Q E s := by
  obtain ⟨ob, e, c, n, d⟩ := hl
  have e1 : (s.heap.push (seqObj "list" #[] 0)).get? l = some ob := Heap.get?_push_of_some _ e
  have eN := Heap.get?_push_size (h := s.heap) (o := seqObj "list" #[] 0) rfl
  unfold collect
  refine wpAny_bind (wpAny_runValue (codeAny_builtin entry_proto_collect' (show wpAny _ _ (do again (.builtin "list.__iadd__" ⟨[← newList [], .ref l], []⟩)) _ _ s from wpAny_bind (wpAny_newList (wpAny_pure ⟨Code.quiet_builtin _ (by decide +kernel), codeAny_builtin entry_list_iadd' ?_⟩)))))
  show wpAny _ _ (Builtin.List.listExtendWith (.ref s.heap.objs.size) (.ref l) (.ref s.heap.objs.size)) _ _ { s with heap := s.heap.push (seqObj "list" #[] 0) }
  unfold Builtin.List.listExtendWith
  refine wpAny_bind (wpAny_typeOf (T := "tuple") ⟨ob, e1, c⟩ ?_)
  rw [if_pos (by rw [show (Value.type "tuple" == Value.type "tuple") = true from rfl]; simp)]
  refine wpAny_bind (listItems_at e1 d (wpAny_bind (listItems_at (xs := #[]) (n := 0) eN rfl ?_)))
  rw [if_neg (by simp)]
  refine wpAny_bind (listUpdate_at (xs := #[]) (n := 0) eN rfl (wpAny_pure ?_) (Nat.zero_le _) (by show (#[] ++ vs.toArray).size ≤ sizeLine + 1; simp only [Array.size_append, List.size_toArray, List.length_nil]; omega))
  refine (show wpAny (model P w) A (do
    let o ← load s.heap.objs.size
    match o.data with
    | .seq xs _ => pure xs.toList
    | _ => unsupported "internal:collect") Q E { s with heap := (s.heap.push (seqObj "list" #[] 0)).update s.heap.objs.size (Obj.mapSeq (· ++ vs.toArray)) } from wpAny_bind (wpAny_load (get?_update_seq eN _) ?_))
  refine (show wpAny _ _ (pure ((#[] : Array Value) ++ vs.toArray).toList) Q E _ from ?_)
  rw [show ((#[] : Array Value) ++ vs.toArray).toList = vs by simp]
  exact wpAny_pure k
theorem sorted_tup {l : Addr} {vs : List Value} {ns : List Int} {Q : Value → Shared → Prop} (hl : s.heap.IsTuple l vs.toArray) (hI : IntsAre vs ns) (small : vs.length < 64)
    (k : ∀ (out : Array Value) (ns' : List Int), IntsAre out.toList ns' → ns'.Perm ns → ns'.Pairwise (· ≤ ·) → Q (.ref (s.heap.objs.size + 1)) { s with heap := sortedAll s.heap vs out }) :
    wpAny (model P w) A (call (.builtin "sorted") [.ref l]) Q E s := by
  refine Calls.call_function_entry kind_sorted plain_sorted entry_sorted (args_sorted1 _) ?_
  unfold Builtin.«sorted»
  refine wpAny_bind (m := checkCount "sorted" 1 1 _) (wpAny_pure (wpAny_bind (collect_tup hl (by rw [sizeLine_eq]; omega) (wpAny_bind (wpAny_newList ?_)))))
  have sz : ((s.heap.push (seqObj "list" #[] 0)).update s.heap.objs.size (Obj.mapSeq (· ++ vs.toArray))).objs.size = s.heap.objs.size + 1 := by rw [Heap.size_update, size_push']
  have eN : (((s.heap.push (seqObj "list" #[] 0)).update s.heap.objs.size (Obj.mapSeq (· ++ vs.toArray))).push (seqObj "list" vs.toArray 0)).get? (s.heap.objs.size + 1) = some (seqObj "list" vs.toArray 0) := by
    rw [← sz]; exact Heap.get?_push_size _ rfl
  refine (show wpAny _ _ _ _ _ { s with heap := ((s.heap.push (seqObj "list" #[] 0)).update s.heap.objs.size (Obj.mapSeq (· ++ vs.toArray))).push (seqObj "list" vs.toArray 0) } from ?_)
  rw [sz]
  exact wpAny_bind (wpAny_holding (wpAny_call_entry slot_list_sort ⟨_, eN, rfl⟩ entry_list_sort (list_sort_tree eN hI small fun out ns' a1 a2 a3 => ⟨_, rfl, wpAny_pure ⟨_, rfl, k out ns' a1 a2 a3⟩⟩) (args_list_sort _)))
end
/-- sorted(xs): ints, a list or a tuple -/
def rSortQ (K : PySem.W.Frag) : List V → Hp → VK → Prop := fun vs H Q => ∃ (a : Addr) (ns : List Int), vs = [V.ref a] ∧ Sq K H a (ns.map V.int) ∧ ns.length < 64 ∧
  ∀ (ns' : List Int) (p : Addr), ns'.Perm ns → ns'.Pairwise (· ≤ ·) → H p = none → Q (.ref p) (upd H p (.lst (ns'.map V.int)))
theorem cr_sortQ {X : Cx} : CallR X (.builtin "sorted") (rSortQ X.K) := by
  intro pins s σ H vs us Q I r h
  obtain ⟨a, ns, rfl, hs | hs, small, q⟩ := h
  · exact cr_sorted pins s σ H [.ref a] us Q I r ⟨a, ns, rfl, hs, small, q⟩
  · obtain ⟨its, rv, pt, _⟩ := I.tuple hs
    rw [Vals.ref1 r]
    have len := rv.length
    rw [List.length_map] at len
    refine sorted_tup (show s.heap.IsTuple a its.toArray from pt) rv.ints (by rw [← len]; exact small) fun out ns' h1 h2 h3 => ?_
    obtain ⟨ep, he⟩ := sortedAll_at s.heap its out
    have hlen : (ns'.map V.int).length ≤ sizeLine := by rw [List.length_map, h2.length_eq, sizeLine_eq]; omega
    exact ⟨.ref _, upd H (s.heap.objs.size + 1) (.lst (ns'.map V.int)), I.laid (t' := s.toks) (fun _ _ => sortedAll_old) (Nat.le_succ _) ⟨hlen, out.toList, ep, vals_of_ints h1, he⟩, rfl, q ns' _ h2 h3 (I.hok.fresh (Nat.le_succ _))⟩
/-- for c in text -/
theorem for_strN {x : PySem.Str} {g : TG} {tb : TS} {D : Ends} {σ : L2.St} {H : Hp} (Pv : Nat → L2.St → Hp → Prop) (h0 : Pv 0 σ H)
    (hs : ∀ i c σ H, x.cps.toList[i]? = some c → Pv i σ H → g (.str ⟨#[c]⟩) σ H fun σ2 H2 => tb { D with nx := Pv (i + 1), ct := Pv (i + 1), bk := D.nx } σ2 H2) (hd : ∀ σ H, Pv x.cps.toList.length σ H → D.nx σ H) : Loop (Its x) g tb D σ H := by
  refine ⟨fun i m σ H => m = x.cps.toList.length - i ∧ i ≤ x.cps.toList.length ∧ Pv i σ H, ⟨x.cps.toList.length, (Nat.sub_zero _).symm, Nat.zero_le _, h0⟩, ?_⟩
  rintro i m σ H ⟨rfl, hi, p⟩
  by_cases lt : i < x.cps.toList.length
  · refine .inr ⟨(show i < x.cps.size by simpa using lt), Pv (i + 1), fun σ' H' p' => ⟨_, by omega, rfl, lt, p'⟩, ?_⟩
    rintro v H' ⟨rfl, c, e, rfl⟩
    exact hs i c σ _ (by rw [Array.getElem?_toList]; exact e) p
  · obtain rfl : i = x.cps.toList.length := by omega
    exact .inl ⟨by show x.cps.size ≤ _; simp, hd σ H p⟩
/-- for a, b in zip(xs, ys): two lists of one length -/
theorem for_zip {K : PySem.W.Frag} {a b : Addr} {xs ys : List V} {g : TG} {tb : TS} {D : Ends} {σ : L2.St} {H H0 : Hp} (ka : SqL K H0 a xs) (kb : SqL K H0 b ys) (len : xs.length = ys.length) (Pv : Nat → L2.St → Hp → Prop) (h0 : Pv 0 σ H)
    (hl : ∀ i σ' H', i ≤ xs.length → Pv i σ' H' → Same H0 H')
    (hs : ∀ i x y σ H T, xs[i]? = some x → ys[i]? = some y → Pv i σ H → H T = none → g (.ref T) σ (upd H T (.tup [x, y])) fun σ2 H2 => tb { D with nx := Pv (i + 1), ct := Pv (i + 1), bk := D.nx } σ2 H2) (hd : ∀ σ H, Pv xs.length σ H → D.nx σ H) : Loop (Itz K a b) g tb D σ H := by
  refine ⟨fun i m σ H => m = xs.length - i ∧ i ≤ xs.length ∧ Pv i σ H, ⟨xs.length, (Nat.sub_zero _).symm, Nat.zero_le _, h0⟩, ?_⟩
  rintro i m σ H ⟨rfl, hi, p⟩
  have qa := sqL_keep ka fun o e => hl i σ H hi p _ _ e
  have qb := sqL_keep kb fun o e => hl i σ H hi p _ _ e
  by_cases lt : i < xs.length
  · refine .inr ⟨⟨xs, ys, xs[i], ys[i]'(len ▸ lt), qa, qb, by simp [lt], by simp [len ▸ lt]⟩, Pv (i + 1), fun σ' H' p' => ⟨_, by omega, rfl, lt, p'⟩, ?_⟩
    rintro v H' ⟨T, x, y, rfl, n, rfl, e1, e2⟩
    exact hs i x y σ H T (e1 xs qa) (e2 ys qb) p n
  · obtain rfl : i = xs.length := by omega
    exact .inl ⟨⟨xs, ys, qa, qb, .inl (Nat.le_refl _)⟩, hd σ H p⟩
/-- two ascending lists of the same ints, each once -/
theorem asc_perm {l r : List Int} (h : l.Pairwise (· ≤ ·)) (g : r.Pairwise (· ≤ ·)) (p : l.Perm r) : l = r := p.eq_of_pairwise (fun _ _ _ _ a b => Int.le_antisymm a b) h g
end Txs


/-! What the top leaves, read off by addresses: defs, methods, getters of properties. -/
namespace Hd
open PySem PySem.Spec PyProof.Rows L2 He
/-- one def: where it stands, its text -/
structure DefP where
  at_ : PySem.W.Frag → Addr
  name : PySem.Str
  qual : PySem.Str
  params : Arguments
  body : List Stmt
  scope : Scope
  dfl : List Dv := []
def fnP (K : PySem.W.Frag) (a : Addr) : FnW := match K.lookup a with
  | some ⟨_, _, .func fd, _⟩ => some (fd.name, fd.qualname, fd.params, fd.body, fd.scope, fd.globals, fd.closure, fd.builtins)
  | _ => none
def DefP.val (d : DefP) : FnW := some (d.name, d.qual, d.params, .stmts d.body, d.scope, mainGlobals, [], builtinsNs)
def DefP.dvs (K : PySem.W.Frag) (d : DefP) : List V := d.dfl.map (Dv.v K)
def DefP.ok (K : PySem.W.Frag) (d : DefP) : Bool := PySem.W.keepIn K (.ref (d.at_ K)) && match K.lookup (d.at_ K) with
  | some ⟨_, _, .func fd, _⟩ => PySem.W.codeIn K fd.code d.qual && dflB K fd.defaults (d.dvs K)
  | _ => false
theorem DefP.funD {K : PySem.W.Frag} {d : DefP} (e : fnP K (d.at_ K) = d.val) (c : d.ok K = true) : ∃ fd, FunD K d.name d.qual d.params d.body d.scope (d.dvs K) [] (d.at_ K) fd := by
  obtain ⟨kp, c⟩ := ba c
  unfold fnP at e
  rcases q : K.lookup (d.at_ K) with _ | ⟨oc, od, dt, osl⟩
  · rw [q] at c; cases c
  · rw [q] at c e
    cases dt
    case func fd =>
      obtain ⟨n1, n2, n3, n4, n5, n6, n7, n8, n9, n10, n11, n12, n13, n14, n15⟩ := fd
      have e : (some (n1, n2, n3, n4, n5, n6, n7, n15) : FnW) = some (d.name, d.qual, d.params, .stmts d.body, d.scope, mainGlobals, [], builtinsNs) := e
      simp only [Option.some.injEq, Prod.mk.injEq] at e
      obtain ⟨rfl, rfl, rfl, rfl, rfl, rfl, rfl, rfl⟩ := e
      obtain ⟨k1, k2⟩ := ba (show (PySem.W.codeIn K n13 d.qual && dflB K n8 (d.dvs K)) = true from c)
      exact ⟨_, ⟨oc, od, n8, n9, n10, n11, n12, n13, n14, osl, rfl, q, k1, dflB_ok k2, .inl rfl⟩, kp⟩
    all_goals cases c
/-- a property's object, its getter -/
def pAt (K : PySem.W.Frag) (C : Addr) (f : PySem.Str) : Addr := match PySem.W.findIn K (.ref C) f with
  | some (some (.ref p)) => p
  | _ => 0
def gAt (K : PySem.W.Frag) (C : Addr) (f : PySem.Str) : Addr := match PySem.W.recIn K (pAt K C f) "property" with
  | some (.ref g :: _) => g
  | _ => 0
def propB (K : PySem.W.Frag) (C : Addr) (f : PySem.Str) : Bool := eqO (PySem.W.findIn K (.ref C) f) (some (some (.ref (pAt K C f)))) && (eqO (PySem.W.specialIn K (.ref (pAt K C f)) "__get__") (some (some (.builtin "property.__get__"))) &&
  (decide (PySem.W.takesIn K (.ref (pAt K C f)) = some true) && match PySem.W.recIn K (pAt K C f) "property" with
    | some (.ref _ :: _) => true
    | _ => false))
theorem propB_ok {K : PySem.W.Frag} {C : Addr} {f : PySem.Str} (h : propB K C f = true) : PropOf K C f (pAt K C f) (gAt K C f) := by
  obtain ⟨h1, h⟩ := ba h
  obtain ⟨h2, h⟩ := ba h
  obtain ⟨h3, h4⟩ := ba h
  refine ⟨eqO_ok h1, eqO_ok h2, of_decide_eq_true h3, ?_⟩
  unfold gAt
  split at h4
  · rename_i g r e
    rw [e]
    exact ⟨r, rfl⟩
  · cases h4
abbrev Obs : Type := Bool × List FnW
def obsP (fa : List Fa) (ex : PySem.W.Frag → Bool) (fn : List DefP) (K : PySem.W.Frag) : Obs := ((fa.all fun f => f.ok K) && (ex K && fn.all fun d => d.ok K), fn.map fun d => fnP K (d.at_ K))
def valP (fn : List DefP) : Obs := (true, fn.map DefP.val)
def Says (fa : List Fa) (ex : PySem.W.Frag → Bool) (fn : List DefP) (K : PySem.W.Frag) : Prop := obsP fa ex fn K = valP fn
def obsG (n : Nat) (fa : List Fa) (ex : PySem.W.Frag → Bool) (fn : List DefP) (g : Addr → Option Obj) : Obs := obsP fa ex fn (frG g (asD g n))
def hook (n : Nat) (fa : List Fa) (ex : PySem.W.Frag → Bool) (fn : List DefP) : PySem.W.Hook where
  α := Obs
  obs := fun s => obsG n fa ex fn s.heap.get?
  val := fun _ => valP fn
  says := fun _ h => ∃ K : PySem.W.Frag, K.In h ∧ Says fa ex fn K
  of := fun _ _ e => ⟨_, frG_in, e⟩
  keeps := fun _ _ _ ⟨K, i, c⟩ k => ⟨K, PySem.W.Frag.In.keeps i k, c⟩
theorem obsG_eq {n : Nat} {fa : List Fa} {ex : PySem.W.Frag → Bool} {fn : List DefP} {g : Addr → Option Obj} {s : Shared} (h : ∀ a, g a = s.heap.get? a) : obsG n fa ex fn g = (hook n fa ex fn).obs s := by
  rw [show g = s.heap.get? from funext h]
  rfl
section
variable {fa : List Fa} {ex : PySem.W.Frag → Bool} {fn : List DefP} {K : PySem.W.Frag}
theorem Says.all (c : Says fa ex fn K) : (∀ f ∈ fa, f.ok K = true) ∧ ex K = true ∧ ∀ d ∈ fn, d.ok K = true := by
  obtain ⟨h1, h⟩ := ba (show ((fa.all fun f => f.ok K) && (ex K && fn.all fun d => d.ok K)) = true from congrArg (fun z : Obs => z.1) c)
  obtain ⟨h2, h3⟩ := ba h
  exact ⟨List.all_eq_true.mp h1, h2, List.all_eq_true.mp h3⟩
theorem Says.fact (c : Says fa ex fn K) (i : Nat) {f : Fa} (h : fa[i]? = some f := by rfl) : f.ok K = true := c.all.1 f (List.mem_of_getElem? h)
theorem Says.def_ (c : Says fa ex fn K) (i : Nat) {d : DefP} (h : fn[i]? = some d := by rfl) : ∃ fd, FunD K d.name d.qual d.params d.body d.scope (d.dvs K) [] (d.at_ K) fd := by
  have e : fn.map (fun d => fnP K (d.at_ K)) = fn.map DefP.val := congrArg (fun z : Obs => z.2) c
  have e2 : (fn.map fun d => fnP K (d.at_ K))[i]? = (fn.map DefP.val)[i]? := by rw [e]
  rw [List.getElem?_map, List.getElem?_map, h] at e2
  exact DefP.funD (Option.some.inj e2) (c.all.2.2 d (List.mem_of_getElem? h))
end
end Hd


/-! == and != of an instance by its class's own ==, whatever stands on the right; what it answers is what its promise says. -/
namespace Cmps
open PySem PySem.Spec PyProof.Rows L2
/-- a class with its own ==, and with no own != -/
structure Own (K : PySem.W.Frag) (C f : Addr) : Prop where
  eq : PySem.W.findIn K (.ref C) "__eq__" = some (some (.ref f))
  fn : PySem.W.isFn K (.ref f) = true
  ne : PySem.W.findIn K (.ref C) "__ne__" = some (some (.builtin "object.__ne__"))
  ob : PySem.W.subIn K (.ref C) (.type "object") = some true
theorem ne_bind (self : Value) : bindSpecial (.builtin "object.__ne__") self = pure (.builtin "object.__ne__", [self]) :=
  (Slot.of (T := "object") (name := "__ne__") (owner := "object") (n := "__ne__") (by rw [typeLookup_type, builtinLookup_eq_fast]; kernel_rfl) (by decide +kernel) (by decide +kernel) (by decide +kernel)
    (.inl (by decide +kernel)) (by rw [isSubtype_type]; kernel_rfl)).bind self
section
variable {prog : Program} {w : World} {A : Around} {E : Value → Shared → Prop} {s : Shared} {K : PySem.W.Frag} {x C f : Addr} {ox : Obj} {od : Option Obj} {b tb : Value}
theorem ifBound_ne {M : Model} {args : List Value} {Q : Option Value → Shared → Prop} (X : K.In s.heap) (I : PySem.W.InstAt s.heap x ox C od) (hs : PySem.W.findIn K (.ref C) "__ne__" = some (some (.builtin "object.__ne__")))
    (h : wpAny M A (call (.builtin "object.__ne__") (.ref x :: args)) (fun v => Q (some v)) E s) : wpAny M A (callSpecialIfBound? (.ref x) "__ne__" args) Q E s := by
  simp only [callSpecialIfBound?, bindSpecialIfBound?]
  refine wpAny_holding (wpAny_bind (wpAny_bind (wpAny_bind (I.type.here ((PySem.W.looks_findIn X hs).here ?_)))))
  refine wpAny_bind (wpAny_askSetting (wpAny_ite ?_))
  have fin : wpAny M A (call (.builtin "object.__ne__") ([.ref x] ++ args) >>= fun v => pure (some v)) Q E s := wpAny_bind (wpAny_mono h (fun v s' h' => wpAny_pure h') fun _ _ h' => h')
  rw [ne_bind]
  split
  · exact wpAny_bind (wpAny_pure (wpAny_pure (by exact fin)))
  · exact wpAny_tryCatch (wpAny_bind (wpAny_pure (wpAny_pure (by exact fin))))
/-- !=: the own == asked, its answer turned -/
theorem ne_K {Q : Value → Shared → Prop} (hu : A.units + 1 < cLine) (X : K.In s.heap) (O : Own K C f) (I : PySem.W.InstAt s.heap x ox C od) (hb : PySem.W.Looks (model prog w) s.heap (typeOf b) tb) (hn : PySem.W.notFirst K C tb = true)
    (h : wpAny (model prog w) A.in1 (call (.ref f) [.ref x, b]) (fun v s' => ∃ r, v = .bool r ∧ Q (.bool (!r)) s') E s) : wpAny (model prog w) A (richCompare .NotEq (.ref x) b) Q E s := by
  have obj : PySem.W.Looks (model prog w) s.heap (isInstance (.ref x) (.type "object")) true := I.type.andThen (PySem.W.looks_subIn X O.ob)
  have body : wpAny (model prog w) A (call (.builtin "object.__ne__") [.ref x, b]) (fun v s' => ∃ r, v = .bool r ∧ Q (.bool r) s') E s := by
    refine wpAny_call (codeAny_call_builtin (by decide +kernel) F.cmpEntry_ne (PySem.W.check_slot F.cmpKind_ne F.cmpSplit_ne obj (F.cmpArgs_ne _ _) ?_))
    unfold Builtin.«object.__ne__»
    refine wpAny_bind (m := slotArgs "__ne__" 1 _) (wpAny_pure ?_)
    refine wpAny_bind (wpAny_cRoomFor (show A.in1.units < cLine from hu) ?_)
    refine wpAny_bind (PySem.W.ifBound_K X I O.eq O.fn (wpAny_mono h (fun v s' hv => ?_) fun _ _ e => e))
    obtain ⟨r, rfl, q⟩ := hv
    exact wpAny_bind (wpAny_truthy_bool (wpAny_pure ⟨_, rfl, q⟩))
  have one : wpAny (model prog w) A (tryCompare (.ref x) "__ne__" b) (fun r s' => ∃ v, r = some (.bool v) ∧ Q (.bool v) s') E s := by
    unfold tryCompare
    refine wpAny_bind (ifBound_ne X I O.ne (wpAny_mono body (fun v s' hv => ?_) fun _ _ e => e))
    obtain ⟨r, rfl, q⟩ := hv
    exact wpAny_pure ⟨_, rfl, q⟩
  unfold richCompare
  simp only [oneThing_ref]
  refine wpAny_holding (wpAny_bind (wpAny_cRoomFor (Nat.lt_of_succ_lt hu) ?_))
  refine wpAny_bind (I.type.here (wpAny_bind (hb.here ?_)))
  split
  · rename_i q
    have e : PySem.W.subIn K tb (.ref C) = some false := by
      rcases Bool.or_eq_true_iff.mp hn with e | e
      · rw [beq_iff_eq.mp e] at q; simp at q
      · exact beq_iff_eq.mp e
    refine wpAny_bind ((PySem.W.looks_subIn X e).here ?_)
    simp only [Bool.false_eq_true, if_false]
    refine wpAny_bind (wpAny_mono one (fun r s' z => ?_) fun _ _ e => e)
    obtain ⟨v, rfl, hq⟩ := z
    exact wpAny_pure hq
  · refine wpAny_bind (wpAny_pure ?_)
    simp only [Bool.false_eq_true, if_false]
    refine wpAny_bind (wpAny_mono one (fun r s' z => ?_) fun _ _ e => e)
    obtain ⟨v, rfl, hq⟩ := z
    exact wpAny_pure hq
end
section
variable {X : Cx} {k : Nat} {C f : Addr} {fd : FuncData} {ps : List Str} {sp : Sp}
/-- the own == called, at the running body or below it -/
theorem own_call (F : FnOk X.prog X.w X.K X.mg X.base CX0 k f fd ps sp) (hb : Binds X.K fd ps []) {A : Around} (sb : Sub X k A) {pins : List (Addr × Obj)} {σ : L2.St} {H : Hp} {s : Shared} {a : Addr} {y : V} {u : Value} {Q : VK}
    (I : Inv X pins σ H s) (ry : RelV y u) (h : sp [.ref a, y] H (fun v H' => ∃ b, v = .bl b ∧ Q v H') E0) :
    wpAny (model X.prog X.w) A (call (.ref f) [.ref a, u]) (fun v s' => ∃ b H', v = .bool b ∧ Inv X pins σ H' s' ∧ Q (.bl b) H') X.xe s := by
  have e0 : Env0 X.prog X.w X.K X.mg X.base A X.stack s H := by
    have e := I.env0
    exact ⟨by rw [sb.fr]; exact e.frames, e.mod, e.bs, e.bsz, e.funs, e.frf, e.hok, e.bare⟩
  have hl := F.len _ _ _ _ h
  have r2 : Vals [V.ref a, y] [Value.ref a, u] := .cons rfl (.cons ry .nil)
  refine wpAny_call (codeAny_mono (F.run A X.stack s H ⟨[.ref a, u], []⟩ [.ref a, u] [.ref a, y] _ E0 sb.room e0 (by
    have := hb s [.ref a, u] I.kIn (by simpa using hl)
    simpa using this) r2 h) fun r s' hq => ?_)
  cases r with
  | error e => exact L2.pass0 pins σ H s e s' I hq
  | ok fl =>
    cases fl with
    | ret w =>
      obtain ⟨z, H', I', rz, b, ez, q⟩ := I.after hq
      subst ez
      cases (show w = .bool b from rz)
      exact ⟨b, H', rfl, I', q⟩
    | next => exact False.elim hq
    | brk => exact False.elim hq
    | cont => exact False.elim hq
/-- what x == y and x != y ask: x an instance of the class, y of a type that does not come first -/
def rEqI (K : PySem.W.Frag) (C : Addr) (sp : Sp) (neg : Bool) : R2 := fun x y H Q => ∃ a dx fs t, x = .ref a ∧ H a = some (.ins C dx fs) ∧ TyX K H y t ∧ PySem.W.notFirst K C t = true ∧ sp [.ref a, y] H (fun v H' => ∃ b, v = .bl b ∧ Q (.bl (if neg then !b else b)) H') E0
theorem op_eqI (F : FnOk X.prog X.w X.K X.mg X.base CX0 k f fd ps sp) (hb : Binds X.K fd ps []) (O : Own X.K C f) (hr : Room k X.A) : OpR X (compareOp .Eq) (rEqI X.K C sp false) := by
  intro pins s σ H x y v u Q I rx ry hq
  obtain ⟨a, dx, fs, t, rfl, ha, ty, nf, h⟩ := hq
  cases rx
  obtain ⟨mA, J, _⟩ := ins_get I.hok ha
  obtain ⟨od, J, _⟩ := J.look
  obtain ⟨m, hF⟩ := I.fr
  obtain ⟨T, KX, hT, _⟩ := kit_of I ry ty
  show wpAny (model X.prog X.w) X.A (richCompare .Eq (.ref a) u) (EP X pins σ Q) X.xe s
  refine PySem.W.cmp_K (op := .Eq) (tb := t) hr.units0 hF I.ok.mod.kin J (KX.ty _ _ I.kIn hT) nf O.eq O.fn ?_
  have h' : sp [.ref a, y] H (fun v H' => ∃ b, v = .bl b ∧ Q v H') E0 := by
    have e : (fun v H' => ∃ b, v = V.bl b ∧ Q (.bl (if false = true then !b else b)) H') = (fun v H' => ∃ b, v = V.bl b ∧ Q v H') := by
      funext v H'
      exact propext ⟨fun ⟨b, e, q⟩ => ⟨b, e, by subst e; exact q⟩, fun ⟨b, e, q⟩ => ⟨b, e, by subst e; exact q⟩⟩
    rw [← e]; exact h
  refine wpAny_mono (own_call F hb (A := X.A) ⟨hr, rfl⟩ I ry h') (fun r s' z => ?_) fun _ _ e => e
  obtain ⟨b, H', rfl, I', q⟩ := z
  exact ⟨.bl b, H', I', rfl, q⟩
theorem op_neI (F : FnOk X.prog X.w X.K X.mg X.base CX0 k f fd ps sp) (hb : Binds X.K fd ps []) (O : Own X.K C f) (hr : Room (k + 1) X.A) : OpR X (compareOp .NotEq) (rEqI X.K C sp true) := by
  intro pins s σ H x y v u Q I rx ry hq
  obtain ⟨a, dx, fs, t, rfl, ha, ty, nf, h⟩ := hq
  cases rx
  obtain ⟨mA, J, _⟩ := ins_get I.hok ha
  obtain ⟨od, J, _⟩ := J.look
  obtain ⟨T, KX, hT, _⟩ := kit_of I ry ty
  show wpAny (model X.prog X.w) X.A (richCompare .NotEq (.ref a) u) (EP X pins σ Q) X.xe s
  refine ne_K (tb := t) (by have := hr.un; omega) I.kIn O J (KX.ty _ _ I.kIn hT) nf ?_
  have h' : sp [.ref a, y] H (fun v H' => ∃ b, v = .bl b ∧ (fun v H' => ∃ b, v = .bl b ∧ Q (.bl (!b)) H') v H') E0 := by
    have e : (fun v H' => ∃ b, v = V.bl b ∧ Q (.bl (if true = true then !b else b)) H') = (fun v H' => ∃ b, v = .bl b ∧ (fun v H' => ∃ b, v = V.bl b ∧ Q (.bl (!b)) H') v H') := by
      funext v H'
      exact propext ⟨fun ⟨b, e, q⟩ => ⟨b, e, b, e, q⟩, fun ⟨b, e, b', e', q⟩ => ⟨b', e', q⟩⟩
    rw [← e]; exact h
  refine wpAny_mono (own_call F hb (A := X.A.in1) (Sub.in1 ⟨hr, rfl⟩) I ry h') (fun r s' z => ?_) fun _ _ e => e
  obtain ⟨b, H', rfl, I', b', eb, q⟩ := z
  cases eb
  exact ⟨b, rfl, .bl (!b), H', I', rfl, q⟩
end
end Cmps


/-! == with a built-in value on the left and an instance with its own == on the right: the built-in's == declines, then the instance's is asked. -/
namespace Cmps
open PySem PySem.Spec PyProof.Rows L2
section
variable {prog : Program} {w : World} {A : Around} {E : Value → Shared → Prop} {s : Shared} {K : PySem.W.Frag} {x C f dx : Addr} {ox : Obj} {od : Option Obj} {v : Value} {T ida : String}
/-- the built-in's own == declines an instance -/
def Declines (prog : Program) (w : World) (s : Shared) (v : Value) (x : Addr) (T ida : String) : Prop := s.TypeIs v T ∧ Slot T "__eq__" ida ∧ ∀ (A : Around) (E : Value → Shared → Prop) (Q : Value → Shared → Prop), Q .notImplemented s → wpAny (model prog w) A (call (.builtin ida) [v, .ref x]) Q E s
theorem eq_right {Q : Value → Shared → Prop} (hu : A.units < cLine) (X : K.In s.heap) (O : Own K C f) (I : PySem.W.InstAt s.heap x ox C od) (D : Declines prog w s v x T ida) (nb : PySem.W.subIn K (.ref C) (.type T) = some false)
    (h : wpAny (model prog w) A (call (.ref f) [.ref x, v]) (PySem.W.CmpBack Q) E s) : wpAny (model prog w) A (richCompare .Eq v (.ref x)) Q E s := by
  obtain ⟨hT, hs, hd⟩ := D
  have one : wpAny (model prog w) A (tryCompare (.ref x) "__eq__" v) (fun r s' => ∃ v, r = some v ∧ Q v s') E s := by
    unfold tryCompare
    refine wpAny_bind (PySem.W.ifBound_K X I O.eq O.fn (wpAny_mono h (fun v s' hv => ?_) fun _ _ e => e))
    cases v <;> first | exact hv.elim | exact wpAny_pure ⟨_, rfl, hv⟩
  unfold richCompare
  simp only [hT.oneThing_none]
  refine wpAny_holding (wpAny_bind (wpAny_cRoomFor hu ?_))
  refine wpAny_bind (wpAny_typeOf hT (wpAny_bind (I.type.here ?_)))
  have ne : (Value.type T != Value.ref C) = true := by simp
  simp only [ne, if_true]
  refine wpAny_bind ((PySem.W.looks_subIn X nb).here ?_)
  simp only [Bool.false_eq_true, if_false, Bool.not_false, if_true]
  refine wpAny_bind (m := tryCompare v _ (.ref x)) (wpAny_tryCompare_declines hT hs (hd _ _ _ ⟨rfl, ?_⟩))
  refine wpAny_bind (wpAny_mono one (fun r s' z => ?_) fun _ _ e => e)
  obtain ⟨v, rfl, hq⟩ := z
  exact wpAny_pure hq
theorem dec_none : Declines prog w s .none x "NoneType" "NoneType.__eq__" :=
  ⟨rfl, F.slot_NoneType_eq, fun A E Q q => GQ.call_here F.slot_NoneType_eq rfl F.entry_NoneType_eq (F.args_NoneType_eq_2 _ _) (by
    unfold Builtin.«NoneType.__eq__»
    exact wpAny_bind (m := slotArgs "__eq__" 1 _) (wpAny_pure (wpAny_pure q)))⟩
theorem asInt_none {M : Model} {Q : Option Int → Shared → Prop} (hx : s.heap.get? x = some ox) (hp : ox.data = .plain) (q : Q none s) : wpAny M A (asInt? (.ref x)) Q E s := by
  unfold asInt?
  refine wpAny_bind (wpAny_load hx ?_)
  rw [hp]
  exact wpAny_pure q
theorem asStr_none {M : Model} {Q : Option PySem.Str → Shared → Prop} (hx : s.heap.get? x = some ox) (hp : ox.data = .plain) (q : Q none s) : wpAny M A (asStr? (.ref x)) Q E s := by
  unfold asStr?
  refine wpAny_bind (wpAny_load hx ?_)
  rw [hp]
  exact wpAny_pure q
theorem dec_int {i : Int} {t : Tok} (hx : s.heap.get? x = some ox) (hp : ox.data = .plain) : Declines prog w s (.int i t) x "int" "int.__eq__" :=
  ⟨rfl, F.slot_int_eq, fun A E Q q => GQ.call_here F.slot_int_eq rfl F.entry_int_eq (F.args_int_eq_2 _ _) (by
    show wpAny _ _ (Builtin.Int.intBinary "__eq__" _ false ⟨[.int i t, .ref x], []⟩) _ _ _
    unfold Builtin.Int.intBinary
    refine wpAny_bind (m := slotArgs "__eq__" 1 _) (wpAny_pure ?_)
    refine wpAny_bind (m := Builtin.Int.intOfSelf _) (wpAny_pure ?_)
    refine wpAny_bind (asInt_none hx hp ?_)
    exact wpAny_bind (wpAny_rule (wpAny_pure q)))⟩
theorem dec_bool {b : Bool} (hx : s.heap.get? x = some ox) (hp : ox.data = .plain) : Declines prog w s (.bool b) x "bool" "int.__eq__" :=
  ⟨rfl, F.slot_bool_eq, fun A E Q q => GQ.call_here F.slot_bool_eq rfl F.entry_int_eq (F.args_int_eq_2 _ _) (by
    show wpAny _ _ (Builtin.Int.intBinary "__eq__" _ false ⟨[.bool b, .ref x], []⟩) _ _ _
    unfold Builtin.Int.intBinary
    refine wpAny_bind (m := slotArgs "__eq__" 1 _) (wpAny_pure ?_)
    refine wpAny_bind (m := Builtin.Int.intOfSelf _) (wpAny_pure ?_)
    refine wpAny_bind (asInt_none hx hp ?_)
    exact wpAny_bind (wpAny_rule (wpAny_pure q)))⟩
theorem dec_str {z : PySem.Str} {t : Tok} (hx : s.heap.get? x = some ox) (hp : ox.data = .plain) : Declines prog w s (.str z t) x "str" "str.__eq__" :=
  ⟨rfl, F.slot_str_eq, fun A E Q q => GQ.call_here F.slot_str_eq rfl F.entry_str_eq (F.args_str_eq_2 _ _) (by
    show wpAny _ _ (Builtin.Str.strCompare "__eq__" _ ⟨[.str z t, .ref x], []⟩) _ _ _
    unfold Builtin.Str.strCompare
    refine wpAny_bind (m := Builtin.Str.strSlot "__eq__" 1 _) (wpAny_pure ?_)
    refine wpAny_bind (asStr_none hx hp ?_)
    exact wpAny_bind (wpAny_rule (wpAny_pure q)))⟩
theorem dec_list {l : Addr} (hl : s.TypeIs (.ref l) "list") (X : K.In s.heap) (I : PySem.W.InstAt s.heap x ox C od) (nb : PySem.W.subIn K (.ref C) (.type "list") = some false) : Declines prog w s (.ref l) x "list" "list.__eq__" :=
  ⟨hl, F.slot_list_eq, fun A E Q q => GQ.call_here F.slot_list_eq hl F.entry_list_eq (F.args_list_eq_2 _ _) (by
    unfold Builtin.«list.__eq__»
    refine wpAny_bind (m := slotArgs "__eq__" 1 _) (wpAny_pure ?_)
    have ob : PySem.W.Looks (model prog w) s.heap (isInstance (.ref x) (.type "list")) false := I.type.andThen (PySem.W.looks_subIn X nb)
    refine wpAny_bind (ob.here ?_)
    rw [if_pos (show (!false) = true from rfl)]
    exact wpAny_pure q)⟩
theorem dec_tup {l : Addr} (hl : s.TypeIs (.ref l) "tuple") (X : K.In s.heap) (I : PySem.W.InstAt s.heap x ox C od) (nb : PySem.W.subIn K (.ref C) (.type "tuple") = some false) : Declines prog w s (.ref l) x "tuple" "tuple.__eq__" :=
  ⟨hl, F.slot_tuple_eq, fun A E Q q => GQ.call_here F.slot_tuple_eq hl F.entry_tuple_eq (F.args_tuple_eq_2 _ _) (by
    unfold Builtin.«tuple.__eq__»
    refine wpAny_bind (m := slotArgs "__eq__" 1 _) (wpAny_pure ?_)
    have ob : PySem.W.Looks (model prog w) s.heap (isInstance (.ref x) (.type "tuple")) false := I.type.andThen (PySem.W.looks_subIn X nb)
    refine wpAny_bind (ob.here ?_)
    rw [if_pos (show (!false) = true from rfl)]
    exact wpAny_pure q)⟩
theorem dec_dict {l : Addr} (hl : s.TypeIs (.ref l) "dict") (X : K.In s.heap) (I : PySem.W.InstAt s.heap x ox C od) (nb : PySem.W.subIn K (.ref C) (.type "dict") = some false) : Declines prog w s (.ref l) x "dict" "dict.__eq__" :=
  ⟨hl, F.slot_dict_eq, fun A E Q q => GQ.call_here F.slot_dict_eq hl F.entry_dict_eq (F.args_dict_eq_2 _ _) (by
    unfold Builtin.«dict.__eq__»
    refine wpAny_bind (m := Builtin.Dict.dictSlotArgs "__eq__" _) (wpAny_pure ?_)
    have ob : PySem.W.Looks (model prog w) s.heap (isInstance (.ref x) (.type "dict")) false := I.type.andThen (PySem.W.looks_subIn X nb)
    refine wpAny_bind (ob.here ?_)
    rw [if_pos (show (!false) = true from rfl)]
    exact wpAny_bind (wpAny_rule (wpAny_pure q)))⟩
end
theorem OpR.or {X : Cx} {o : Value → Value → Sem Value} {r1 r2 : R2} (h1 : OpR X o r1) (h2 : OpR X o r2) : OpR X o (fun x y H Q => r1 x y H Q ∨ r2 x y H Q) := fun pins s σ H x y v u Q I rx ry h => h.elim (fun h => h1 pins s σ H x y v u Q I rx ry h) fun h => h2 pins s σ H x y v u Q I rx ry h
/-- what x == y asks: y an instance with its own ==, x a built-in value -/
def rEqL (K : PySem.W.Frag) (C : Addr) (sp : Sp) : R2 := fun x y H Q => ∃ a dx fs T, y = .ref a ∧ H a = some (.ins C dx fs) ∧ TyOf K H x (.type T) ∧ T ≠ "float" ∧ PySem.W.subIn K (.ref C) (.type T) = some false ∧ sp [.ref a, x] H (fun v H' => ∃ b, v = .bl b ∧ Q (.bl b) H') E0
section
variable {X : Cx} {k : Nat} {C f : Addr} {fd : FuncData} {ps : List Str} {sp : Sp}
theorem op_eqL (F : FnOk X.prog X.w X.K X.mg X.base CX0 k f fd ps sp) (hb : Binds X.K fd ps []) (O : Own X.K C f) (hr : Room k X.A) : OpR X (compareOp .Eq) (rEqL X.K C sp) := by
  intro pins s σ H x y v u Q I rx ry hq
  obtain ⟨a, dx, fs, T, rfl, ha, ty, nf, nb, h⟩ := hq
  cases ry
  obtain ⟨mA, J, _⟩ := ins_get I.hok ha
  obtain ⟨od, J, _⟩ := J.look
  show wpAny (model X.prog X.w) X.A (richCompare .Eq v (.ref a)) (EP X pins σ Q) X.xe s
  have h' : sp [.ref a, x] H (fun v H' => ∃ b, v = .bl b ∧ Q v H') E0 := by
    have e : (fun v H' => ∃ b, v = V.bl b ∧ Q (.bl b) H') = (fun v H' => ∃ b, v = V.bl b ∧ Q v H') := by
      funext v H'
      exact propext ⟨fun ⟨b, e, q⟩ => ⟨b, e, by subst e; exact q⟩, fun ⟨b, e, q⟩ => ⟨b, e, by subst e; exact q⟩⟩
    rw [← e]; exact h
  have fin : wpAny (model X.prog X.w) X.A (call (.ref f) [.ref a, v]) (PySem.W.CmpBack (EP X pins σ Q)) X.xe s := by
    refine wpAny_mono (own_call F hb (A := X.A) ⟨hr, rfl⟩ I rx h') (fun r s' z => ?_) fun _ _ e => e
    obtain ⟨b, H', rfl, I', q⟩ := z
    exact ⟨.bl b, H', I', rfl, q⟩
  have go : ∀ {ida : String}, Declines X.prog X.w s v a T ida → wpAny (model X.prog X.w) X.A (richCompare .Eq v (.ref a)) (EP X pins σ Q) X.xe s := fun D => eq_right hr.units0 I.kIn O J D nb fin
  cases ty with
  | non => cases (show v = Value.none from rx); exact go dec_none
  | bl y => cases (show v = Value.bool y from rx); exact go (dec_bool J.at_ rfl)
  | int i => obtain ⟨t, q⟩ := (show ∃ t, v = Value.int i t from rx); cases q; exact go (dec_int J.at_ rfl)
  | str y => obtain ⟨t, q⟩ := (show ∃ t, v = Value.str y t from rx); cases q; exact go (dec_str J.at_ rfl)
  | flt y => exact absurd rfl nf
  | @lst l xs ea =>
    cases (show v = Value.ref l from rx)
    obtain ⟨_, _, n, _, h1⟩ := (show ObjOk X.prog X.w H s.heap l (.lst xs) from I.hok l _ ea)
    exact go (dec_list ⟨_, h1, rfl⟩ I.kIn J nb)
  | @frz l ob xs ea =>
    cases (show v = Value.ref l from rx)
    obtain ⟨_, _, _, n, _, h1⟩ := (show ObjOk X.prog X.w H s.heap l (.frz ob (.lst xs)) from I.hok l _ ea)
    exact go (dec_list ⟨_, h1, rfl⟩ I.kIn J nb)
  | @tup l xs ea =>
    cases (show v = Value.ref l from rx)
    obtain ⟨_, _, _, o, h1, h2, _⟩ := (show ObjOk X.prog X.w H s.heap l (.tup xs) from I.hok l _ ea)
    exact go (dec_tup ⟨o, h1, h2⟩ I.kIn J nb)
  | @dK l kvs ea =>
    cases (show v = Value.ref l from rx)
    obtain ⟨_, _, vs, _, o, es, ep, h1, h2, _⟩ := (show ObjOk X.prog X.w H s.heap l (.dK kvs) from I.hok l _ ea)
    exact go (dec_dict ⟨o, h1, h2.1⟩ I.kIn J nb)
  | @dT l kvs ea =>
    cases (show v = Value.ref l from rx)
    obtain ⟨_, _, xs, _, o, es, ep, h1, h2, _⟩ := (show ObjOk X.prog X.w H s.heap l (.dT kvs) from I.hok l _ ea)
    exact go (dec_dict ⟨o, h1, h2.1⟩ I.kIn J nb)
end
end Cmps


/-! len(o), x in o, o[x], o[x] = y of an instance by its class's own methods; what they do is what their promises say. -/
namespace Itms
open PySem PySem.Spec PyProof.Rows L2
/-- an own special method of a class -/
structure Spc (K : PySem.W.Frag) (C : Addr) (n : Str) (f : Addr) : Prop where
  fi : PySem.W.findIn K (.ref C) n = some (some (.ref f))
  fn : PySem.W.isFn K (.ref f) = true
  inn : PySem.W.fnIn K f = true
  sq : PySem.W.noSeq K C = true
section
variable {X : Cx} {k : Nat} {C f : Addr} {fd : FuncData} {ps : List Str} {sp : Sp}
/-- the own method called, at the running body or below it -/
theorem own_call (F : FnOk X.prog X.w X.K X.mg X.base CX0 k f fd ps sp) (hb : Binds X.K fd ps []) {A : Around} (sb : Sub X k A) {pins : List (Addr × Obj)} {σ : L2.St} {H : Hp} {s : Shared} {vs : List V} {us : List Value} {Q : VK}
    (I : Inv X pins σ H s) (rv : Vals vs us) (h : sp vs H Q E0) :
    wpAny (model X.prog X.w) A (call (.ref f) us) (EP X pins σ Q) X.xe s := by
  have e0 : Env0 X.prog X.w X.K X.mg X.base A X.stack s H := by
    have e := I.env0
    exact ⟨by rw [sb.fr]; exact e.frames, e.mod, e.bs, e.bsz, e.funs, e.frf, e.hok, e.bare⟩
  have hl := F.len _ _ _ _ h
  have hlu : us.length = ps.length := by rw [← rv.length]; exact hl
  refine wpAny_call (codeAny_mono (F.run A X.stack s H ⟨us, []⟩ us vs _ E0 sb.room e0 (by
    have := hb s us I.kIn (by simpa using hlu)
    simpa using this) rv h) fun r s' hq => ?_)
  cases r with
  | error e => exact L2.pass0 pins σ H s e s' I hq
  | ok fl =>
    cases fl with
    | ret w =>
      obtain ⟨z, H', I', rz, q⟩ := I.after hq
      exact ⟨z, H', I', rz, q⟩
    | next => exact False.elim hq
    | brk => exact False.elim hq
    | cont => exact False.elim hq
def rLenI (C : Addr) (sp : Sp) : List V → Hp → VK → Prop := fun xs H Q => ∃ a dx fs, xs = [.ref a] ∧ H a = some (.ins C dx fs) ∧ sp [.ref a] H (fun v H' => ∃ n : Int, v = .int n ∧ 0 ≤ n ∧ n < 2 ^ 63 ∧ Q (.int n) H') E0
theorem call_lenI (F : FnOk X.prog X.w X.K X.mg X.base CX0 k f fd ps sp) (hb : Binds X.K fd ps []) (O : Spc X.K C "__len__" f) (hr : Room (k + 1) X.A) : CallR X (.builtin "len") (rLenI C sp) := by
  intro pins s σ H xs us Q I rv hq
  obtain ⟨a, dx, fs, rfl, ha, h⟩ := hq
  cases rv with
  | cons r1 r2 =>
    cases r2
    cases r1
    obtain ⟨mA, J, _⟩ := ins_get I.hok ha
    obtain ⟨od, J, _⟩ := J.look
    obtain ⟨m, hF⟩ := I.fr
    refine PySem.W.len_K hF I.ok.mod.kin J O.fi O.fn ?_
    refine wpAny_mono (own_call F hb (A := X.A.in1) (Sub.in1 ⟨hr, rfl⟩) I (.cons (show RelV (V.ref a) (Value.ref a) from rfl) .nil) h) (fun r s' z => ?_) fun _ _ e => e
    obtain ⟨v, H', I', rv, n, rfl, h0, h1, q⟩ := z
    obtain ⟨t, rfl⟩ := rv
    exact ⟨⟨h0, h1⟩, .int n, H', I'.tok _, ⟨_, rfl⟩, q⟩
def rInI (C : Addr) (sp : Sp) (neg : Bool) : R2 := fun x y H Q => ∃ a dx fs, y = .ref a ∧ H a = some (.ins C dx fs) ∧ sp [.ref a, x] H (fun v H' => ∃ b, v = .bl b ∧ Q (.bl (if neg then !b else b)) H') E0
theorem op_inI (F : FnOk X.prog X.w X.K X.mg X.base CX0 k f fd ps sp) (hb : Binds X.K fd ps []) (O : Spc X.K C "__contains__" f) (hr : Room k X.A) : OpR X (compareOp .In) (rInI C sp false) := by
  intro pins s σ H x y v u Q I rx ry hq
  obtain ⟨a, dx, fs, rfl, ha, h⟩ := hq
  cases ry
  obtain ⟨mA, J, _⟩ := ins_get I.hok ha
  obtain ⟨od, J, _⟩ := J.look
  obtain ⟨m, hF⟩ := I.fr
  refine PySem.W.in_K hF I.ok.mod.kin J O.fi O.fn ?_
  refine wpAny_mono (own_call F hb (A := X.A) ⟨hr, rfl⟩ I (.cons (show RelV (V.ref a) (Value.ref a) from rfl) (.cons rx .nil)) h) (fun r s' z => ?_) fun _ _ e => e
  obtain ⟨v, H', I', rv, b, rfl, q⟩ := z
  cases (show r = .bool b from rv)
  exact wpAny_truthy_bool ⟨.bl b, H', I', rfl, q⟩
theorem op_notInI (F : FnOk X.prog X.w X.K X.mg X.base CX0 k f fd ps sp) (hb : Binds X.K fd ps []) (O : Spc X.K C "__contains__" f) (hr : Room k X.A) : OpR X (compareOp .NotIn) (rInI C sp true) := by
  intro pins s σ H x y v u Q I rx ry hq
  obtain ⟨a, dx, fs, rfl, ha, h⟩ := hq
  cases ry
  obtain ⟨mA, J, _⟩ := ins_get I.hok ha
  obtain ⟨od, J, _⟩ := J.look
  obtain ⟨m, hF⟩ := I.fr
  refine PySem.W.notIn_K hF I.ok.mod.kin J O.fi O.fn ?_
  refine wpAny_mono (own_call F hb (A := X.A) ⟨hr, rfl⟩ I (.cons (show RelV (V.ref a) (Value.ref a) from rfl) (.cons rx .nil)) h) (fun r s' z => ?_) fun _ _ e => e
  obtain ⟨v, H', I', rv, b, rfl, q⟩ := z
  cases (show r = .bool b from rv)
  exact wpAny_truthy_bool ⟨.bl (!b), H', I', rfl, q⟩
def rIxI (C : Addr) (sp : Sp) : R2 := fun x y H Q => ∃ a dx fs, x = .ref a ∧ H a = some (.ins C dx fs) ∧ sp [.ref a, y] H Q E0
theorem pe_ixI {a b : Expr} {ta tb : TE} {pos : Pos} (F : FnOk X.prog X.w X.K X.mg X.base CX0 k f fd ps sp) (hb : Binds X.K fd ps []) (O : Spc X.K C "__getitem__" f) (hr : Room (k + 1) X.A) (ha : PE X a ta) (he : PE X b tb)
    (hs : ∀ (o : Addr) (i : Value), subscripted b true (.ref o) i = runValue (.builtin "lifetime.subscript" ⟨[.ref o, i], []⟩) := by intro _ _; with_unfolding_all rfl) : PE X (.Subscript a b pos) (tOp (rIxI C sp) ta tb) := by
  refine ⟨fun pins s σ H Q I h => ?_⟩
  refine Subscript_ (binT ha he I h fun v u s2 x y H2 I2 rx ry q => ?_)
  obtain ⟨p, dx, fs, rfl, hp, h⟩ := q
  cases rx
  obtain ⟨mA, J, _⟩ := ins_get I2.hok hp
  obtain ⟨od, J, _⟩ := J.look
  obtain ⟨m, hF⟩ := I2.fr
  exact PySem.W.sub_K hF I2.ok.mod.kin J O.fi O.inn O.fn (own_call F hb (A := X.A.in1) (Sub.in1 ⟨hr, rfl⟩) I2 (.cons (show RelV (V.ref p) (Value.ref p) from rfl) (.cons ry .nil)) h) (hs _ _)
def rSetI (C : Addr) (sp : Sp) : V → V → V → Hp → (Hp → Prop) → Prop := fun o i v H Q => ∃ a dx fs, o = .ref a ∧ H a = some (.ins C dx fs) ∧ sp [.ref a, i, v] H (fun _ H' => Q H') E0
theorem set_insI (F : FnOk X.prog X.w X.K X.mg X.base CX0 k f fd ps sp) (hb : Binds X.K fd ps []) (O : Spc X.K C "__setitem__" f) (hr : Room k X.A) : PSet X (rSetI C sp) := by
  intro pins s σ H o i v ov iv u Q I ro ri rv hq
  obtain ⟨a, dx, fs, rfl, ha, h⟩ := hq
  cases ro
  obtain ⟨mA, J, _⟩ := ins_get I.hok ha
  obtain ⟨od, J, _⟩ := J.look
  obtain ⟨m, hF⟩ := I.fr
  refine PySem.W.ksp_setItem hF I.ok.mod.kin J O.sq O.fi O.fn ?_
  refine wpAny_mono (own_call F hb (A := X.A) ⟨hr, rfl⟩ I (.cons (show RelV (V.ref a) (Value.ref a) from rfl) (.cons ri (.cons rv .nil))) h) (fun r s' z => ?_) fun _ _ e => e
  obtain ⟨v, H', I', _, q⟩ := z
  exact ⟨H', I', q⟩
def rMulS : R2 := fun x y H Q => ∃ z n, x = .str z ∧ y = .int n ∧ MulOk z n ∧ Q (.str (Txt.mul z n)) H
/-- a text times an int -/
theorem op_mulS : OpR X (binaryOp .Mult) rMulS := by
  intro pins s σ H x y v u Q I rx ry hq
  obtain ⟨z, n, rfl, rfl, ok, q⟩ := hq
  obtain ⟨t, rfl⟩ := rx
  obtain ⟨t', rfl⟩ := ry
  exact SB.mul ok fun t' k => ⟨.str _, H, I.tok _, ⟨_, rfl⟩, q⟩
end
end Itms


/-! sorted of a list of texts with reverse=True: some arrangement of them. -/
namespace TSort
open PySem PyProof.Rows Srt SrtO
section
variable {prog : Program} {w : World} {A : Around} {E : Value → Shared → Prop} {s : Shared}
def sv (v : Value) : List Nat := (strOf v).cps.toList
def ltSv (v u : Value) : Bool := decide (sv v < sv u)
theorem swo_str : Swo ltSv := by
  refine ⟨fun x y h => ?_, fun x y z h1 h2 => ?_⟩
  · have a := of_decide_eq_true (p := sv x < sv y) h
    exact decide_eq_false (p := sv y < sv x) (List.lt_asymm a)
  · have a := of_decide_eq_false (p := sv y < sv x) h1
    have b := of_decide_eq_false (p := sv z < sv y) h2
    exact decide_eq_false (p := sv z < sv x) (List.not_lt.mpr (List.le_trans (List.not_lt.mp a) (List.not_lt.mp b)))
theorem str_cmp {vs : List Value} {ss : List Str} (hI : StrsAre vs ss) : Cmp prog w A s oneType' (fun p => p.1 ∈ vs) (lt2 ltSv) := by
  intro p q hm hm'
  obtain ⟨a, t, e⟩ := hI.all _ hm
  obtain ⟨b, u, e'⟩ := hI.all _ hm'
  show wpAny (model prog w) A (keyLt' oneType' p.1 q.1) (fun r s' => s' = s ∧ r = ltSv p.1 q.1) (fun _ _ => False) s
  rw [e, e', keyLt'_oneType]
  exact oneLt_str ⟨rfl, rfl⟩
theorem strs_sortable {a : Addr} {vs : List Value} {ss : List Str} (hI : StrsAre vs ss) (h2 : 2 ≤ vs.length) : SortableO prog w A s a vs ltSv := by
  intro h' _
  refine ⟨oneType', fun Q E hq => ?_, str_cmp hI⟩
  match vs, hI, h2 with
  | v1 :: v2 :: rest, hI, _ =>
    rw [keyKind_strs hI]
    exact wpAny_pure hq
  | [], _, h => exact absurd h (by decide)
  | [v], _, h => exact absurd h (by simp)
end
end TSort
namespace L2
open PySem PySem.Spec PyProof.Rows
def rSortRS (K : PySem.W.Frag) : List V → List V → Hp → VK → Prop := fun vs zs H Q => ∃ (a : Addr) (ss : List Str), vs = [V.ref a] ∧ zs = [.bl true] ∧ SqL K H a (ss.map V.str) ∧
  ∀ (ss' : List Str) (p : Addr), ss'.Perm ss → H p = none → Q (.ref p) (upd H p (.lst (ss'.map V.str)))
section
variable {X : Cx}
theorem cr_sortRS : CallRK X (.builtin "sorted") [Str.ofString "reverse"] (rSortRS X.K) := by
  intro pins s σ H vs zs us ws Q I r rz h
  obtain ⟨a, ss, rfl, rfl, hs, q⟩ := h
  obtain rfl := Vals.ref1 r
  obtain ⟨w1, rfl, e1⟩ := vals1 rz
  obtain rfl : w1 = Value.bool true := e1
  obtain ⟨its, rv, hl, hz⟩ := I.list hs
  have hi := rv.strs
  refine SrtR.sorted_ordK (b := true) (fun _ => rfl) (PyProof.Rows.args_sorted_rev _ _) (fun _ => PyProof.Rows.args_list_sort_rev _ _) TSort.swo_str hl.isList (by rw [← rv.length]; exact hz) (fun h2 h₁ a' _ _ => TSort.strs_sortable hi h2) fun out h1 h2 => ?_
  have hp : out.Perm its := h2.perm.trans (by simpa using List.reverse_perm its)
  have hp' : (out.toArray.reverse).toList.Perm its := by
    rw [Array.toList_reverse]
    exact (List.reverse_perm _).trans hp
  have hS : StrsAre (out.toArray.reverse).toList ((out.toArray.reverse).toList.map strOf) := strsAre_map _ fun v hv => hi.all _ (hp'.mem_iff.mp hv)
  have hP : ((out.toArray.reverse).toList.map strOf).Perm ss := by
    have := hp'.map strOf
    rwa [hi.strs] at this
  obtain ⟨ep, he'⟩ := PyProof.Rows.sortedAll_at s.heap its (out.toArray.reverse)
  have hlen : (((out.toArray.reverse).toList.map strOf).map V.str).length ≤ sizeLine := by
    rw [List.length_map, hP.length_eq]
    rw [List.length_map] at hz
    exact hz
  have e0 : ((out.toArray.reverse).toList).toArray = out.toArray.reverse := by rw [Array.toArray_toList]
  exact ⟨.ref _, upd H (s.heap.objs.size + 1) (.lst (((out.toArray.reverse).toList.map strOf).map V.str)), I.laid (t' := s.toks) (fun _ _ => PyProof.Rows.sortedAll_old) (Nat.le_succ _) ⟨hlen, _, ep, vals_of_strs hS, by rw [e0]; exact he'⟩, rfl, q _ _ hP (I.hok.fresh (Nat.le_succ _))⟩
end
end L2


namespace Lw
open PySem PySem.Spec PyProof.Rows L2 Txs
open C8 (pe_gc)
def top (i : Nat) : Stmt := PySem.Challenge.pw_leastguards_k05_view_tells_what_it_sees.main.body.getD i (.Pass ⟨0, 0, 0, 0⟩)
abbrev s_law_stream : Stmt := top 15
abbrev s_law_draw : Stmt := top 16
abbrev s_law_is_integer : Stmt := top 17
abbrev s_law_flag : Stmt := top 18
abbrev s_law_long_names : Stmt := top 19
abbrev s_law_right : Stmt := top 20
abbrev s_law_asked : Stmt := top 21
abbrev s_law_spoiled : Stmt := top 22
abbrev s_law_bare : Stmt := top 23
abbrev s_law : Stmt := top 24
abbrev s_is_name : Stmt := top 7
abbrev s_is_row : Stmt := top 8
abbrev s_check_sights : Stmt := top 10
abbrev s_check_words : Stmt := top 11
abbrev s_View___init__ : Stmt := inClass (top 13) 0
abbrev s_View___eq__ : Stmt := inClass (top 13) 1
abbrev s_View___len__ : Stmt := inClass (top 13) 2
abbrev s_View___contains__ : Stmt := inClass (top 13) 3
abbrev s_View___getitem__ : Stmt := inClass (top 13) 4
abbrev s_View___setitem__ : Stmt := inClass (top 13) 5
abbrev s_View_words : Stmt := inClass (top 13) 12
abbrev s_View_sights : Stmt := inClass (top 13) 13
abbrev s_View_holds : Stmt := inClass (top 13) 14
abbrev s_View_hold_just : Stmt := inClass (top 13) 16
abbrev s_View_copy : Stmt := inClass (top 13) 17
abbrev N_law_stream : List PySem.Str := ["_law_script", "_law_at", "_law_cell"]
theorem sc_law_stream : FnScope N_law_stream ["_law_script", "_law_at"] (defScope s_law_stream) := ⟨rfl, rfl, rfl, by decide +kernel, rfl, by decide +kernel, by decide +kernel⟩
abbrev N_law_draw : List PySem.Str := ["_law_stream_here", "_law_limit", "_law_number", "_law_rest"]
theorem sc_law_draw : FnScope N_law_draw ["_law_stream_here", "_law_limit"] (defScope s_law_draw) := ⟨rfl, rfl, rfl, by decide +kernel, rfl, by decide +kernel, by decide +kernel⟩
abbrev N_law_is_integer : List PySem.Str := ["_law_value"]
theorem sc_law_is_integer : FnScope N_law_is_integer ["_law_value"] (defScope s_law_is_integer) := ⟨rfl, rfl, rfl, by decide +kernel, rfl, by decide +kernel, by decide +kernel⟩
abbrev N_law_flag : List PySem.Str := ["_law_told", "_law_due"]
theorem sc_law_flag : FnScope N_law_flag ["_law_told", "_law_due"] (defScope s_law_flag) := ⟨rfl, rfl, rfl, by decide +kernel, rfl, by decide +kernel, by decide +kernel⟩
abbrev N_law_long_names : List PySem.Str := ["_law_stream_here", "_law_count", "_law_names", "_law_k", "_law_name", "_law_turn"]
theorem sc_law_long_names : FnScope N_law_long_names ["_law_stream_here", "_law_count"] (defScope s_law_long_names) := ⟨rfl, rfl, rfl, by decide +kernel, rfl, by decide +kernel, by decide +kernel⟩
abbrev N_law_right : List PySem.Str := ["_law_view", "_law_table", "_law_holds"]
theorem sc_law_right : FnScope N_law_right ["_law_view", "_law_table", "_law_holds"] (defScope s_law_right) := ⟨rfl, rfl, rfl, by decide +kernel, rfl, by decide +kernel, by decide +kernel⟩
abbrev N_law_asked : List PySem.Str := ["_law_view", "_law_names", "_law_table", "_law_name", "_law_thing"]
theorem sc_law_asked : FnScope N_law_asked ["_law_view", "_law_names", "_law_table"] (defScope s_law_asked) := ⟨rfl, rfl, rfl, by decide +kernel, rfl, by decide +kernel, by decide +kernel⟩
abbrev N_law_spoiled : List PySem.Str := ["_law_views", "_law_names", "_law_table", "_law_holds", "_law_view", "_law_told"]
theorem sc_law_spoiled : FnScope N_law_spoiled ["_law_views", "_law_names", "_law_table", "_law_holds"] (defScope s_law_spoiled) := ⟨rfl, rfl, rfl, by decide +kernel, rfl, by decide +kernel, by decide +kernel⟩
abbrev N_law_bare : List PySem.Str := ["_law_table", "_law_holds", "_law_view", "_law_less", "_law_bare_here"]
theorem sc_law_bare : FnScope N_law_bare ["_law_table", "_law_holds", "_law_view"] (defScope s_law_bare) := ⟨rfl, rfl, rfl, by decide +kernel, rfl, by decide +kernel, by decide +kernel⟩
abbrev N_law : List PySem.Str := ["_law_script", "_law_stream_here", "_law_names", "_law_table", "_law_name", "_law_holder", "_law_holds", "_law_turned", "_law_first", "_law_second", "_law_view", "_law_twin", "_law_other", "_law_turn"]
theorem sc_law : FnScope N_law ["_law_script"] (defScope s_law) := ⟨rfl, rfl, rfl, by decide +kernel, rfl, by decide +kernel, by decide +kernel⟩
abbrev N_is_name : List PySem.Str := ["thing", "letter"]
theorem sc_is_name : FnScope N_is_name ["thing"] (defScope s_is_name) := ⟨rfl, rfl, rfl, by decide +kernel, rfl, by decide +kernel, by decide +kernel⟩
abbrev N_is_row : List PySem.Str := ["thing"]
theorem sc_is_row : FnScope N_is_row ["thing"] (defScope s_is_row) := ⟨rfl, rfl, rfl, by decide +kernel, rfl, by decide +kernel, by decide +kernel⟩
abbrev N_check_sights : List PySem.Str := ["sights", "word", "sight"]
theorem sc_check_sights : FnScope N_check_sights ["sights"] (defScope s_check_sights) := ⟨rfl, rfl, rfl, by decide +kernel, rfl, by decide +kernel, by decide +kernel⟩
abbrev N_check_words : List PySem.Str := ["words", "word"]
theorem sc_check_words : FnScope N_check_words ["words"] (defScope s_check_words) := ⟨rfl, rfl, rfl, by decide +kernel, rfl, by decide +kernel, by decide +kernel⟩
abbrev N_View___init__ : List PySem.Str := ["self", "sights", "holds"]
theorem sc_View___init__ : FnScope N_View___init__ ["self", "sights", "holds"] (defScope s_View___init__) := ⟨rfl, rfl, rfl, by decide +kernel, rfl, by decide +kernel, by decide +kernel⟩
abbrev N_View___eq__ : List PySem.Str := ["self", "other"]
theorem sc_View___eq__ : FnScope N_View___eq__ ["self", "other"] (defScope s_View___eq__) := ⟨rfl, rfl, rfl, by decide +kernel, rfl, by decide +kernel, by decide +kernel⟩
abbrev N_View___len__ : List PySem.Str := ["self"]
theorem sc_View___len__ : FnScope N_View___len__ ["self"] (defScope s_View___len__) := ⟨rfl, rfl, rfl, by decide +kernel, rfl, by decide +kernel, by decide +kernel⟩
abbrev N_View___contains__ : List PySem.Str := ["self", "x"]
theorem sc_View___contains__ : FnScope N_View___contains__ ["self", "x"] (defScope s_View___contains__) := ⟨rfl, rfl, rfl, by decide +kernel, rfl, by decide +kernel, by decide +kernel⟩
abbrev N_View___getitem__ : List PySem.Str := ["self", "at"]
theorem sc_View___getitem__ : FnScope N_View___getitem__ ["self", "at"] (defScope s_View___getitem__) := ⟨rfl, rfl, rfl, by decide +kernel, rfl, by decide +kernel, by decide +kernel⟩
abbrev N_View___setitem__ : List PySem.Str := ["self", "at", "worth"]
theorem sc_View___setitem__ : FnScope N_View___setitem__ ["self", "at", "worth"] (defScope s_View___setitem__) := ⟨rfl, rfl, rfl, by decide +kernel, rfl, by decide +kernel, by decide +kernel⟩
abbrev N_View_words : List PySem.Str := ["self"]
theorem sc_View_words : FnScope N_View_words ["self"] (defScope s_View_words) := ⟨rfl, rfl, rfl, by decide +kernel, rfl, by decide +kernel, by decide +kernel⟩
abbrev N_View_sights : List PySem.Str := ["self"]
theorem sc_View_sights : FnScope N_View_sights ["self"] (defScope s_View_sights) := ⟨rfl, rfl, rfl, by decide +kernel, rfl, by decide +kernel, by decide +kernel⟩
abbrev N_View_holds : List PySem.Str := ["self"]
theorem sc_View_holds : FnScope N_View_holds ["self"] (defScope s_View_holds) := ⟨rfl, rfl, rfl, by decide +kernel, rfl, by decide +kernel, by decide +kernel⟩
abbrev N_View_hold_just : List PySem.Str := ["self", "words"]
theorem sc_View_hold_just : FnScope N_View_hold_just ["self", "words"] (defScope s_View_hold_just) := ⟨rfl, rfl, rfl, by decide +kernel, rfl, by decide +kernel, by decide +kernel⟩
abbrev N_View_copy : List PySem.Str := ["self"]
theorem sc_View_copy : FnScope N_View_copy ["self"] (defScope s_View_copy) := ⟨rfl, rfl, rfl, by decide +kernel, rfl, by decide +kernel, by decide +kernel⟩
/-- what the module holds: the built-in names, the constants -/
structure Bt (mg : PySem.Str → Option Value) : Prop where
  b_len : mg "len" = none
  b_isinstance : mg "isinstance" = none
  b_sorted : mg "sorted" = none
  b_range : mg "range" = none
  b_enumerate : mg "enumerate" = none
  b_zip : mg "zip" = none
  b_all : mg "all" = none
  b_int : mg "int" = none
  b_list : mg "list" = none
  b_tuple : mg "tuple" = none
  b_set : mg "set" = none
  b_str : mg "str" = none
  b_bool : mg "bool" = none
  b_dict : mg "dict" = none
  c_LETTERS : ∃ u, mg "LETTERS" = some u ∧ RelV (.str "abcdefghijklmnopqrstuvwxyz") u
  c_LONGEST_NAME : ∃ u, mg "LONGEST_NAME" = some u ∧ RelV (.int 12) u

/-! ### words of our own -/
/-- a def as it stands behind the top, and its name -/
structure At (K : PySem.W.Frag) (mg : PySem.Str → Option Value) (x : PySem.Str) (st : Stmt) : Prop where
  ex : ∃ f fd, FunD K x x (defArgs st) (defBody st) (defScope st) [] [] f fd ∧ mg x = some (.ref f)
/-- a def that can be called: its promise, its defaults -/
structure Cl (P : Program) (w : World) (K : PySem.W.Frag) (mg : PySem.Str → Option Value) (base : Heap) (k : Nat) (x : PySem.Str) (sp : Sp) (dvs : List V) : Prop where
  ex : ∃ f fd ps ds, FnOk P w K mg base CX0 k f fd ps sp ∧ mg x = some (.ref f) ∧ PySem.W.keepIn K (.ref f) = true ∧ Binds K fd ps ds ∧ Vals dvs ds
/-- a class that makes its instances by __init__ -/
structure Mr (P : Program) (w : World) (K : PySem.W.Frag) (mg : PySem.Str → Option Value) (base : Heap) (k : Nat) (x : PySem.Str) (C : Addr) (sp : Sp) (dvs : List V) : Prop where
  ex : ∃ f fd ps ds, Mk K C f ∧ FnOk P w K mg base CX0 k f fd ps sp ∧ mg x = some (.ref C) ∧ Binds K fd ps ds ∧ Vals dvs ds
/-- a property of a class -/
structure Pr (P : Program) (w : World) (K : PySem.W.Frag) (mg : PySem.Str → Option Value) (base : Heap) (k : Nat) (C : Addr) (x : PySem.Str) (sp : Sp) : Prop where
  ex : ∃ p f fd ps, PropOf K C x p f ∧ Cls K C ∧ FnOk P w K mg base CX0 k f fd ps sp ∧ Binds K fd ps []
section
variable {P : Program} {w : World} {K : PySem.W.Frag} {mg : PySem.Str → Option Value} {base : Heap}
theorem At.cal {x : PySem.Str} {st : Stmt} {k : Nat} {sp : Sp} {ps : List PySem.Str} (A : At K mg x st) (ok : ∀ f fd, FunD K x x (defArgs st) (defBody st) (defScope st) [] [] f fd → FnOk P w K mg base CX0 k f fd ps sp)
    (b : ∀ (kV doc pm : Value) (an : Option Addr) (cdv ct : Value) (us : List Value), us.length = ps.length → bindArgs (PySem.W.fnOf x x (defArgs st) (defBody st) (defScope st) .none kV doc pm an cdv ct) ⟨us, []⟩ = pure (ps.zip us)) : Cl P w K mg base k x sp [] := by
  obtain ⟨f, fd, F, g⟩ := A.ex
  exact ⟨f, fd, ps, [], ok f fd F, g, F.kp, F.bindsN b, .nil⟩
end
section
variable {X : Cx} {k j : Nat} {C : Addr} {x : PySem.Str} {sp : Sp} {dvs : List V} {p pos : Pos} {e : Expr} {es : List Expr} {t : TA} {ta : TE}
theorem pe_cl (c : Cl X.prog X.w X.K X.mg X.base k x sp dvs) (hr : Room j X.A) (hk : k ≤ j) (hg : Gl X x) (ha : PA X (e :: es) t) (h1 : (x == ("__debug__" : PySem.Str)) = false := by decide)
    (h2 : starEach (e :: es) X.env = (false, eval e X.env) :: starEach es X.env := by rfl) (h3 : (backTo pos (starEach es X.env)).any (·.1) = false := by rfl) : PE X (.Call (.Name x p) (e :: es) [] pos) (tCall sp dvs E0 t) :=
  let ⟨_, _, _, _, F, hm, kp, b, d⟩ := c.ex
  pe_call F (hr.mono hk) hg hm kp b d pass0 ha h1 h2 h3
theorem pe_cl0 (c : Cl X.prog X.w X.K X.mg X.base k x sp dvs) (hr : Room j X.A) (hk : k ≤ j) (hg : Gl X x) (h1 : (x == ("__debug__" : PySem.Str)) = false := by decide) : PE X (.Call (.Name x p) [] [] pos) (tCall sp dvs E0 tNil) :=
  let ⟨_, _, _, _, F, hm, kp, b, d⟩ := c.ex
  pe_call0 F (hr.mono hk) hg hm kp b d pass0 h1
theorem pe_mr (c : Mr X.prog X.w X.K X.mg X.base k x C sp dvs) (hr : Room j X.A) (hk : k + 1 ≤ j) (hg : Gl X x) (ha : PA X (e :: es) t) (h1 : (x == ("__debug__" : PySem.Str)) = false := by decide)
    (h2 : starEach (e :: es) X.env = (false, eval e X.env) :: starEach es X.env := by rfl) (h3 : (backTo pos (starEach es X.env)).any (·.1) = false := by rfl) : PE X (.Call (.Name x p) (e :: es) [] pos) (tMake C sp dvs E0 t) :=
  let ⟨_, _, _, _, M, F, hm, b, d⟩ := c.ex
  pe_make M F (hr.mono hk) hg hm b d pass0 ha h1 h2 h3
theorem pe_pr (c : Pr X.prog X.w X.K X.mg X.base k C x sp) (hr : Room j X.A) (hk : k + 1 ≤ j) (he : PE X e ta) (hab : attributeBase e x X.env (eval e X.env) = eval e X.env) : PE X (.Attribute e x pos) (tProp C sp [] E0 ta) :=
  let ⟨_, _, _, _, hp, hc, F, b⟩ := c.ex
  pe_prop he hc hp F (hr.mono hk) b .nil pass0 hab
end
theorem hu64_of {A : Around} {k : Nat} (r : Room k A) : A.units + 64 < cLine := by have := r.un; omega
theorem hu65_of {A : Around} {k : Nat} (r : Room k A) : A.units + 65 < cLine := by have := r.un; omega
/-! rules within a comprehension's block: K told -/
theorem ixT (K : PySem.W.Frag) {X : Cx} (h : X.K = K := by rfl) : IxR X (rIxT K) := h ▸ ix_tup
theorem ixL (K : PySem.W.Frag) {X : Cx} (h : X.K = K := by rfl) : IxR X (rIxL K) := h ▸ ix_list
theorem opIn (K : PySem.W.Frag) {X : Cx} (h : X.K = K := by rfl) : OpR X (compareOp .In) (rIn K false) := h ▸ op_in_seq
theorem opNotIn (K : PySem.W.Frag) {X : Cx} (h : X.K = K := by rfl) : OpR X (compareOp .NotIn) (rIn K true) := h ▸ op_notIn_seq
theorem clLen (K : PySem.W.Frag) {X : Cx} (h : X.K = K := by rfl) : CallR X (.builtin "len") (fun xs H Q => ∃ p ys, xs = [.ref p] ∧ (SqL K H p ys ∨ SqT K H p ys) ∧ Q (.int ys.length) H) := h ▸ call_len_seq
theorem clIsi (K : PySem.W.Frag) {X : Cx} (h : X.K = K := by rfl) : CallR X (.builtin "isinstance") (rIsi K) := h ▸ call_isi
/-- all but what stands at a is kept -/
def But (a : Addr) (H H' : Hp) : Prop := ∀ b o, H b = some o → b ≠ a → H' b = some o
theorem But.refl {a : Addr} {H : Hp} : But a H H := fun _ _ h _ => h
theorem But.trans {a : Addr} {H H1 H2 : Hp} (p : But a H H1) (q : But a H1 H2) : But a H H2 := fun b o h n => q b o (p b o h n) n
theorem But.upd {a : Addr} {H : Hp} {o : HO} : But a H (L2.upd H a o) := fun b u h n => by rw [upd_ne n]; exact h
theorem But.new {a p : Addr} {H H' : Hp} {o : HO} (k : But a H H') (n : H' p = none) : But a H (L2.upd H' p o) := fun b u h ne => by
  have := k b u h ne
  rw [upd_ne (ne_of_none this n)]; exact this
theorem But.put {a p : Addr} {H H' : Hp} {o : HO} (k : But a H H') (n : H p = none) : But a H (L2.upd H' p o) := fun b u h ne => by
  rw [upd_ne (ne_of_none h n)]; exact k b u h ne
theorem But.of {a : Addr} {H H' : Hp} (k : Same H H') : But a H H' := fun b o h _ => k b o h
/-- three ints in a list: a stream of draws -/
def Stm (H : Hp) (a : Addr) : Prop := ∃ x y z : Int, H a = some (.lst [.int x, .int y, .int z])
theorem Stm.ne {H : Hp} {a b : Addr} {o : HO} (s : Stm H a) (h : H b = some o) (d : ∀ x y z : Int, o ≠ .lst [.int x, .int y, .int z]) : b ≠ a := by
  obtain ⟨x, y, z, e⟩ := s
  intro q
  rw [q, e] at h
  exact d x y z (Option.some.inj h).symm
theorem Stm.keep {H H' : Hp} {a : Addr} (s : Stm H a) (k : Same H H') : Stm H' a := let ⟨x, y, z, e⟩ := s; ⟨x, y, z, k _ _ e⟩
theorem Stm.new {H : Hp} {a p : Addr} {o : HO} (s : Stm H a) (n : H p = none) : Stm (L2.upd H p o) a := by
  obtain ⟨x, y, z, e⟩ := s
  exact ⟨x, y, z, by rw [upd_ne (ne_of_none e n)]; exact e⟩
theorem Stm.put {H : Hp} {a p : Addr} {o : HO} (s : Stm H a) (n : p ≠ a) : Stm (L2.upd H p o) a := by
  obtain ⟨x, y, z, e⟩ := s
  exact ⟨x, y, z, by rw [upd_ne n.symm]; exact e⟩
theorem seq_at {K : PySem.W.Frag} {H H' : Hp} {a : Addr} {xs : List V} (h : SqL K H a xs) (k : ∀ o, H a = some o → H' a = some o) : SqL K H' a xs := by
  rcases h with (h | ⟨o, h⟩) | h
  · exact .inl (.inl (k _ h))
  · exact .inl (.inr ⟨o, k _ h⟩)
  · exact .inr h
theorem atI_ok {xs : List V} {i : Int} {n : Nat} {v : V} (e : i = (n : Int)) (h : xs[n]? = some v) : atI xs i = some v := at_of e h
theorem same_new {H H' : Hp} {p : Addr} {o : HO} (k : Same H H') (n : H' p = none) : Same H (L2.upd H' p o) := fun b u h => by
  have := k b u h
  rw [upd_ne (ne_of_none this n)]; exact this
theorem same_put {H H' : Hp} {p : Addr} {o : HO} (k : Same H H') (n : H p = none) : Same H (L2.upd H' p o) := fun b u h => by
  rw [upd_ne (ne_of_none h n)]; exact k b u h
end Lw

namespace Lw
open PySem PySem.Spec PyProof.Rows L2 Txs
open C8 (pe_gc)
/-! ### the draws: slots 0 _law_stream_here, 1 _law_limit, 2 _law_number, 3 _law_rest -/
def spStream (K : PySem.W.Frag) : Sp := fun vs H Q _ => ∃ (a : Addr) (ns : List Int) (i : Nat), vs = [.ref a, .int (i : Int)] ∧ SqL K H a (ns.map V.int) ∧
  ∀ p H', Same H H' → H p = none → Stm H' p → Q (.ref p) H'
def spDraw : Sp := fun vs H Q _ => ∃ (a : Addr) (n : Int), vs = [.ref a, .int n] ∧ Stm H a ∧ 0 < n ∧ n.natAbs < 1073741824 ∧
  ∀ (r : Int) H', 0 ≤ r → r < n → But a H H' → Stm H' a → Q (.int r) H'
section
variable {P : Program} {w : World} {K : PySem.W.Frag} {mg : PySem.Str → Option Value} {base : Heap}
theorem ok_stream (T : Bt mg) {f : Addr} {fd : FuncData} (F : FunD K "_law_stream" "_law_stream" (defArgs s_law_stream) (defBody s_law_stream) (defScope s_law_stream) [] [] f fd) : FnOk P w K mg base CX0 1 f fd ["_law_script", "_law_at"] (spStream K) := by
  refine F.ok sc_law_stream (fun vs H Q E h => ?_) (fun cdv A outer s H vs Q E hr h => ?_)
  · obtain ⟨a, ns, i, rfl, _⟩ := h
    rfl
  · obtain ⟨a, ns, i, rfl, hS, k⟩ := h
    have hu := hu_of hr
    refine ⟨_, PSs.nox (pss_cons (ps_set (i := 2) sc_law_stream.nd rfl (Or.inl rfl) pe_int) (Evl.pss_cut (ps_if (pt_cmpR op_lt (pv 1) (pe_callB call_len_seq (by rfl) T.b_len PySem.boot_len (pa_cons (pv 0) pa_nil)) (nomark _)) (pss_one (ps_set (i := 2) sc_law_stream.nd rfl (Or.inl rfl) (pe_ix ix_list (pv 0) (pv 1) (fun _ _ => rfl)))) pss_nil) (pss_cons (ps_if (pt_cmpR op_ge (pv 2) (pe_op op_pow pe_int pe_int) (nomark _)) (pss_one (ps_ret (pe_lst (pa_cons (pv 2) (pa_cons pe_int (pa_cons (pv 1) pa_nil)))))) pss_nil) (pss_one (ps_ret (pe_lst (pa_cons pe_int (pa_cons pe_int (pa_cons (pe_op op_mod (pe_callTy call_int1 (by rfl) T.b_int (by decide +kernel) (pa_cons (pe_op op_add (pe_op op_mul (pv 2) pe_int) (pe_op op_mul (pv 1) pe_int)) pa_nil)) pe_int) pa_nil))))))))), ?_⟩
    -- the cell's value
    refine ⟨fun σ' H' => H' = H ∧ ∃ c : Int, σ' = [some (.ref a), some (.int (i : Int)), some (.int c)], ?_, ?_⟩
    · refine ⟨_, rfl, _, rfl, _, _, rfl, .inl hS, _, _, rfl, rfl, _, rfl, ite2 (fun lt => ?_) (fun _ => ⟨rfl, 0, rfl⟩)⟩
      have li : i < ns.length := by
        have := of_decide_eq_true lt
        rw [List.length_map] at this
        omega
      exact ⟨_, rfl, _, rfl, a, _, _, .int ns[i], rfl, rfl, hS, atI_ok rfl (by simp [li]), rfl, ns[i], rfl⟩
    · rintro σ' H' ⟨rfl, c, rfl⟩
      refine ⟨_, rfl, _, _, rfl, rfl, ⟨by decide, by decide, by decide⟩, _, _, rfl, rfl, _, rfl, ite2 (fun _ => ?_) (fun _ => ?_)⟩
      · refine ⟨_, rfl, _, rfl, (by show 3 ≤ sizeLine; decide), fun p hp => ?_⟩
        exact k p _ (same_new (Same.refl _) hp) hp ⟨_, _, _, upd_same⟩
      · refine ⟨_, rfl, _, _, rfl, rfl, .inr ⟨by decide, by decide⟩, _, rfl, _, _, rfl, rfl, .inr ⟨by decide, by decide⟩, _, _, rfl, rfl, .inl ⟨_, rfl, _, _, rfl, rfl, (by show (0 : Int) < 2147483647; decide), (by show 3 ≤ sizeLine; decide), fun p hp => ?_⟩⟩
        exact k p _ (same_new (Same.refl _) hp) hp ⟨_, _, _, upd_same⟩
theorem ok_draw (T : Bt mg) {f : Addr} {fd : FuncData} (F : FunD K "_law_draw" "_law_draw" (defArgs s_law_draw) (defBody s_law_draw) (defScope s_law_draw) [] [] f fd) : FnOk P w K mg base CX0 1 f fd ["_law_stream_here", "_law_limit"] spDraw := by
  refine F.ok sc_law_draw (fun vs H Q E h => ?_) (fun cdv A outer s H vs Q E hr h => ?_)
  · obtain ⟨a, n, rfl, _⟩ := h
    rfl
  · obtain ⟨a, n, rfl, ⟨x, y, z, hS⟩, n0, n1, k⟩ := h
    have hu := hu_of hr
    refine ⟨_, PSs.nox (pss_cons (ps_if (pt_cmpR op_gt (pe_ix ix_list (pv 0) pe_int (fun _ _ => rfl)) pe_int (nomark _)) (pss_cons (ps_set (i := 3) sc_law_draw.nd rfl (Or.inl rfl) (pe_ix ix_list (pv 0) pe_int (fun _ _ => rfl))) (pss_cons (ps_asg (pe_op op_fdivN (pv 3) (pv 1)) (pg_sub (pv 0) pe_int set_list)) (pss_one (ps_ret (pe_op op_modN (pe_callTy call_int1 (by rfl) T.b_int (by decide +kernel) (pa_cons (pv 3) pa_nil)) (pv 1)))))) pss_nil) (pss_cons (ps_asg (pe_op op_add (pe_ix ix_list (pv 0) pe_int (fun _ _ => rfl)) pe_int) (pg_sub (pv 0) pe_int set_list)) (pss_cons (ps_set (i := 2) sc_law_draw.nd rfl (Or.inl rfl) (pe_op op_mod (pe_callTy call_int1 (by rfl) T.b_int (by decide +kernel) (pa_cons (pe_op op_add (pe_op op_add (pe_op op_mul (pe_ix ix_list (pv 0) pe_int (fun _ _ => rfl)) pe_int) (pe_op op_mul (pe_ix ix_list (pv 0) pe_int (fun _ _ => rfl)) pe_int)) pe_int) pa_nil)) pe_int)) (pss_cons (ps_set (i := 2) sc_law_draw.nd rfl (Or.inl rfl) (pe_op op_mod (pe_callTy call_int1 (by rfl) T.b_int (by decide +kernel) (pa_cons (pe_op op_mul (pv 2) (pe_op op_add (pe_op op_fdiv (pv 2) pe_int) pe_int)) pa_nil)) pe_int)) (pss_cons (ps_asg (pv 2) (pg_sub (pv 0) pe_int set_list)) (pss_one (ps_ret (pe_op op_modN (pe_callTy call_int1 (by rfl) T.b_int (by decide +kernel) (pa_cons (pe_op op_fdiv (pv 2) pe_int) pa_nil)) (pv 1))))))))), ?_⟩
    refine ⟨_, rfl, a, _, _, .int x, rfl, rfl, SqL.of hS, rfl, _, _, rfl, rfl, _, rfl, ite2 (fun _ => ?_) (fun _ => ?_)⟩
    · refine ⟨_, rfl, a, _, _, .int x, rfl, rfl, SqL.of hS, rfl, ?_⟩
      refine ⟨_, rfl, _, rfl, _, _, rfl, rfl, ⟨by omega, n1⟩, _, rfl, a, _, _, 0, rfl, rfl, hS, rfl, ?_⟩
      refine ⟨_, rfl, .inl ⟨_, rfl, _, rfl, _, _, rfl, rfl, by omega, ?_⟩⟩
      exact k _ _ (Int.fmod_nonneg_of_pos _ n0) (Int.fmod_lt_of_pos _ n0) But.upd ⟨_, _, _, upd_same⟩
    · refine ⟨_, rfl, a, _, _, .int y, rfl, rfl, SqL.of hS, rfl, _, _, rfl, rfl, _, rfl, a, _, _, 1, rfl, rfl, hS, rfl, ?_⟩
      -- two numbers, one from the other
      refine ⟨_, rfl, a, _, _, .int z, rfl, rfl, SqL.of upd_same, rfl, _, _, rfl, rfl, .inr ⟨by decide, by decide⟩, _, rfl, a, _, _, .int (y + 1), rfl, rfl, SqL.of upd_same, rfl, _, _, rfl, rfl, .inr ⟨by decide, by decide⟩, _, _, rfl, rfl, _, _, rfl, rfl,
        .inl ⟨_, rfl, _, _, rfl, rfl, (by show (0 : Int) < 2147483647; decide), ?_⟩⟩
      have p0 : 0 ≤ (z * 48271 + (y + 1) * 40692 + 30103) % 2147483647 := Int.emod_nonneg _ (by decide)
      have p1 : (z * 48271 + (y + 1) * 40692 + 30103) % 2147483647 < 2147483647 := Int.emod_lt_of_pos _ (by decide)
      generalize (z * 48271 + (y + 1) * 40692 + 30103) % 2147483647 = m at p0 p1 ⊢
      refine ⟨_, rfl, _, rfl, _, _, rfl, rfl, ⟨by decide, by decide⟩, _, _, rfl, rfl, _, _, rfl, rfl, .inl ⟨by omega, by omega⟩, .inl ⟨_, rfl, _, _, rfl, rfl, (by show (0 : Int) < 2147483629; decide), ?_⟩⟩
      generalize (m * (m / 1009 + 69621)) % 2147483629 = v
      refine ⟨_, rfl, _, rfl, a, _, _, 2, rfl, rfl, upd_same, rfl, ?_⟩
      refine ⟨_, rfl, _, _, rfl, rfl, ⟨by decide, by decide⟩, .inl ⟨_, rfl, _, rfl, _, _, rfl, rfl, by omega, ?_⟩⟩
      exact k _ _ (Int.fmod_nonneg_of_pos _ n0) (Int.fmod_lt_of_pos _ n0) (But.trans But.upd But.upd) ⟨_, _, _, upd_same⟩
theorem cl_stream (T : Bt mg) (a : At K mg "_law_stream" s_law_stream) : Cl P w K mg base 1 "_law_stream" (spStream K) [] := a.cal (ps := ["_law_script", "_law_at"]) (fun _ _ F => ok_stream T F) (fun _ _ _ _ _ _ us hl => match us, hl with | [_, _], _ => rfl)
theorem cl_draw (T : Bt mg) (a : At K mg "_law_draw" s_law_draw) : Cl P w K mg base 1 "_law_draw" spDraw [] := a.cal (ps := ["_law_stream_here", "_law_limit"]) (fun _ _ F => ok_draw T F) (fun _ _ _ _ _ _ us hl => match us, hl with | [_, _], _ => rfl)
end
end Lw

namespace Lw
open PySem PySem.Spec PyProof.Rows L2 Txs
open C8 (pe_gc)
def Nm (x : PySem.Str) : Prop := 0 < x.length ∧ x.length ≤ 12 ∧ ∀ c ∈ x.cps.toList, 97 ≤ c ∧ c ≤ 122
def abc : PySem.Str := "abcdefghijklmnopqrstuvwxyz"
theorem abc_at {i : Nat} (h : i < 26) : abc.cps.toList[i]? = some (97 + i) := by
  have e : abc.cps.toList = (List.range 26).map (97 + ·) := by decide +kernel
  rw [e, List.getElem?_map, List.getElem?_range h]
  rfl
def abl : PySem.Str := "abcdefghijkl"
theorem abl_at {i : Nat} (h : i < 12) : abl.cps.toList[i]? = some (97 + i) := by
  have e : abl.cps.toList = (List.range 12).map (97 + ·) := by decide +kernel
  rw [e, List.getElem?_map, List.getElem?_range h]
  rfl
theorem str_len_app (x y : PySem.Str) : (x ++ y).length = x.length + y.length := by
  show (x.cps ++ y.cps).size = x.cps.size + y.cps.size
  simp
theorem str_list_app (x y : PySem.Str) : (x ++ y).cps.toList = x.cps.toList ++ y.cps.toList := by
  show (x.cps ++ y.cps).toList = _
  simp
theorem nm_grow {x : PySem.Str} {c : Nat} {n : Nat} (h : x.length = n ∧ ∀ c ∈ x.cps.toList, 97 ≤ c ∧ c ≤ 122) (hc : 97 ≤ c ∧ c ≤ 122) : (x ++ (⟨#[c]⟩ : PySem.Str)).length = n + 1 ∧ ∀ d ∈ (x ++ (⟨#[c]⟩ : PySem.Str)).cps.toList, 97 ≤ d ∧ d ≤ 122 := by
  refine ⟨by rw [str_len_app, h.1]; rfl, fun d hd => ?_⟩
  rw [str_list_app] at hd
  rcases List.mem_append.mp hd with q | q
  · exact h.2 d q
  · have e : d = c := by simpa using q
    rw [e]; exact hc
def spNames : Sp := fun vs H Q _ => ∃ (a : Addr) (n : Nat), vs = [.ref a, .int (n : Int)] ∧ Stm H a ∧ n ≤ 12 ∧
  ∀ p (ws : List PySem.Str) H', H p = none → But a H H' → Stm H' a → H' p = some (.lst (ws.map V.str)) → ws.length = n → (∀ w ∈ ws, Nm w) → Q (.ref p) H'
theorem all_flat_strs (ws : List PySem.Str) : (ws.map V.str).all flatV = true := by
  rw [List.all_map, List.all_eq_true]
  intro _ _
  rfl
section
variable {P : Program} {w : World} {K : PySem.W.Frag} {mg : PySem.Str → Option Value} {base : Heap}
end
end Lw

namespace Lw
open PySem PySem.Spec PyProof.Rows L2 Txs
open C8 (pe_gc)
/-! ### kinds of values -/
def nmB (x : PySem.Str) : Bool := decide (1 ≤ (x.length : Int)) && decide ((x.length : Int) ≤ 12) && x.cps.toList.all fun c => decide (c ∈ abc.cps.toList)
theorem abc_mem (c : Nat) : c ∈ abc.cps.toList ↔ 97 ≤ c ∧ c ≤ 122 := by
  have e : abc.cps.toList = (List.range 26).map (97 + ·) := by decide +kernel
  rw [e, List.mem_map]
  constructor
  · rintro ⟨i, hi, rfl⟩
    have := List.mem_range.mp hi
    omega
  · intro h
    exact ⟨c - 97, List.mem_range.mpr (by omega), by omega⟩
theorem nmB_iff {x : PySem.Str} : nmB x = true ↔ Nm x := by
  unfold nmB Nm
  rw [Bool.and_eq_true, Bool.and_eq_true, decide_eq_true_eq, decide_eq_true_eq, List.all_eq_true]
  constructor
  · rintro ⟨⟨a, b⟩, c⟩
    exact ⟨by omega, by omega, fun d hd => (abc_mem d).1 (of_decide_eq_true (c d hd))⟩
  · rintro ⟨a, b, c⟩
    exact ⟨⟨by omega, by omega⟩, fun d hd => decide_eq_true ((abc_mem d).2 (c d hd))⟩
/-- the built-in kind n of a value -/
abbrev Kd (K : PySem.W.Frag) (H : Hp) (x : V) (t : Value) : Prop := TyX K H x t
def spIsInt (K : PySem.W.Frag) : Sp := fun vs H Q _ => ∃ x t b1 b2, vs = [x] ∧ TyX K H x t ∧ PySem.W.kitOne K t (.type "int") = some b1 ∧ (b1 = true → PySem.W.kitOne K t (.type "bool") = some b2) ∧ Q (.bl (b1 && !b2)) H
theorem isInt_int {K : PySem.W.Frag} {H : Hp} {i : Int} {Q : VK} {E : XK} (q : Q (.bl true) H) : spIsInt K [.int i] H Q E :=
  ⟨_, _, true, false, rfl, .base (.int i), kit_ty (by decide +kernel), fun _ => kit_ty (by decide +kernel), q⟩
def spIsName (K : PySem.W.Frag) : Sp := fun vs H Q _ => (∃ z, vs = [.str z] ∧ z.length ≤ sizeLine ∧ Q (.bl (nmB z)) H) ∨ ∃ x t, vs = [x] ∧ TyX K H x t ∧ PySem.W.kitOne K t (.type "str") = some false ∧ Q (.bl false) H
def stB (i : Int) : Bool := decide (0 ≤ i) && decide (i ≤ 99)
def spIsState (K : PySem.W.Frag) : Sp := fun vs H Q _ => (∃ i, vs = [.int i] ∧ Q (.bl (stB i)) H) ∨
  ∃ x t b1 b2, vs = [x] ∧ TyX K H x t ∧ PySem.W.kitOne K t (.type "int") = some b1 ∧ (b1 = true → PySem.W.kitOne K t (.type "bool") = some b2) ∧ (b1 && !b2) = false ∧ Q (.bl false) H
def spIsRow (K : PySem.W.Frag) : Sp := fun vs H Q _ => ∃ x t b, vs = [x] ∧ TyX K H x t ∧ PySem.W.kitAny K t [.type "list", .type "tuple"] = some b ∧ ∀ H', Same H H' → Q (.bl b) H'
theorem tyof_keep {K : PySem.W.Frag} {H H' : Hp} {x : V} {t : Value} (h : TyOf K H x t) (k : Same H H') : TyOf K H' x t := by
  cases h with
  | non => exact .non
  | bl b => exact .bl b
  | int i => exact .int i
  | str z => exact .str z
  | flt z => exact .flt z
  | lst e => exact .lst (k _ _ e)
  | frz e => exact .frz (k _ _ e)
  | tup e => exact .tup (k _ _ e)
  | dK e => exact .dK (k _ _ e)
  | dT e => exact .dT (k _ _ e)
  | ins e c1 c2 c3 c4 c5 => exact .ins (k _ _ e) c1 c2 c3 c4 c5
theorem tyx_keep {K : PySem.W.Frag} {H H' : Hp} {x : V} {t : Value} (h : TyX K H x t) (k : Same H H') : TyX K H' x t := by
  cases h with
  | base b => exact .base (tyof_keep b k)
  | byt b => exact .byt b
  | set e => exact .set (k _ _ e)
  | kList e c => exact .kList e c
  | kTuple e c => exact .kTuple e c
  | kDict e c => exact .kDict e c
  | fTuple e => exact .fTuple (k _ _ e)
  | fDict e => exact .fDict (k _ _ e)
section
variable {P : Program} {w : World} {K : PySem.W.Frag} {mg : PySem.Str → Option Value} {base : Heap}
theorem ok__law_is_integer (T : Bt mg) {f : Addr} {fd : FuncData} (F : FunD K "_law_is_integer" "_law_is_integer" (defArgs s_law_is_integer) (defBody s_law_is_integer) (defScope s_law_is_integer) [] [] f fd) : FnOk P w K mg base CX0 1 f fd ["_law_value"] (spIsInt K) := by
  refine F.ok sc_law_is_integer (fun vs H Q E h => ?_) (fun cdv A outer s H vs Q E hr h => ?_)
  · obtain ⟨x, t, b1, b2, rfl, _⟩ := h
    rfl
  · obtain ⟨x, t, b1, b2, rfl, ty, e1, e2, q⟩ := h
    refine ⟨_, PSs.nox (pss_one (ps_ret (pe_and (pe_callB call_isi (by rfl) T.b_isinstance (by decide +kernel) (pa_cons (pv 0) (pa_cons (pe_bltn (v := .ty "int") (by rfl) T.b_int (by decide +kernel) rfl) pa_nil))) (pe_one (pe_not (pe_callB call_isi (by rfl) T.b_isinstance (by decide +kernel) (pa_cons (pv 0) (pa_cons (pe_bltn (v := .ty "bool") (by rfl) T.b_bool (by decide +kernel) rfl) pa_nil)))))))), ?_⟩
    refine ⟨_, rfl, _, _, _, _, b1, rfl, .ty _, ty, e1, b1, rfl, ?_⟩
    cases b1 with
    | false => exact iteF q
    | true => exact iteT ⟨_, rfl, _, _, _, _, b2, rfl, .ty _, ty, e2 rfl, b2, rfl, q⟩
theorem cl__law_is_integer (T : Bt mg) (a : At K mg "_law_is_integer" s_law_is_integer) : Cl P w K mg base 1 "_law_is_integer" (spIsInt K) [] := a.cal (ps := ["_law_value"]) (fun _ _ F => ok__law_is_integer T F) (fun _ _ _ _ _ _ us hl => match us, hl with | [_], _ => rfl)
theorem ok_is_name (T : Bt mg) {f : Addr} {fd : FuncData} (F : FunD K "is_name" "is_name" (defArgs s_is_name) (defBody s_is_name) (defScope s_is_name) [] [] f fd) : FnOk P w K mg base CX0 1 f fd ["thing"] (spIsName K) := by
  refine F.ok sc_is_name (fun vs H Q E h => ?_) (fun cdv A outer s H vs Q E hr h => ?_)
  · rcases h with ⟨z, rfl, _⟩ | ⟨x, t, rfl, _⟩ <;> rfl
  · refine ⟨_, PSs.nox (pss_cons (ps_if (PW.pt (pw_or (pt_not (pt_val (pe_callB call_isi (by rfl) T.b_isinstance (by decide +kernel) (pa_cons (pv 0) (pa_cons (pe_bltn (v := .ty "str") (by rfl) T.b_str (by decide +kernel) rfl) pa_nil))))) (pw_or1 (pt_not (pt_chain op_le op_le pe_int (pe_callB call_len_str (by rfl) T.b_len PySem.boot_len (pa_cons (pv 0) pa_nil)) (pe_gc rfl T.c_LONGEST_NAME)))))) (pss_one (ps_ret pe_bl)) pss_nil) (pss_cons (ps_for PassesOwn.never rfl (pi_str (pv 0)) (pg_name (i := 1) sc_is_name.nd rfl (Or.inl rfl)) (pss_one (ps_if (pt_cmpR op_notIn_sign (pv 1) (pe_gc rfl T.c_LETTERS) (by rfl)) (pss_one (ps_ret pe_bl)) pss_nil))) (pss_one (ps_ret pe_bl)))), ?_⟩
    rcases h with ⟨z, rfl, lz, q⟩ | ⟨x, t, rfl, ty, e1, q⟩
    · refine ⟨_, rfl, _, _, _, _, true, rfl, .ty _, .base (.str z), kit_ty (by decide +kernel), true, rfl, iteF ?_⟩
      refine ⟨_, rfl, z, rfl, lz, _, _, rfl, rfl, _, rfl, ?_⟩
      unfold nmB at q
      by_cases h1 : 1 ≤ (z.length : Int)
      · rw [decide_eq_true h1] at q ⊢
        refine iteT ⟨_, _, rfl, rfl, _, rfl, ?_⟩
        by_cases h2 : (z.length : Int) ≤ 12
        · rw [decide_eq_true h2] at q ⊢
          refine iteF ?_
          refine ⟨_, rfl, z, rfl, for_strN (x := z) (fun i σ H' => H' = H ∧ (∃ v, σ = [some (.str z), v]) ∧ ∀ c ∈ z.cps.toList.take i, c ∈ abc.cps.toList) ?_ ?_ ?_⟩
          · exact ⟨rfl, ⟨_, rfl⟩, fun c hc => nomatch hc⟩
          · rintro i c σ H1 hc ⟨rfl, ⟨v, rfl⟩, all⟩
            refine ⟨_, rfl, c, abc, rfl, rfl, _, rfl, ?_⟩
            by_cases m : c ∈ abc.cps.toList
            · rw [decide_eq_true m]
              refine iteF ⟨rfl, ⟨_, rfl⟩, fun d hd => ?_⟩
              rw [List.take_add_one, hc] at hd
              rcases List.mem_append.mp hd with q | q
              · exact all d q
              · rw [List.mem_singleton.mp q]; exact m
            · rw [decide_eq_false m]
              refine iteT ?_
              have : (z.cps.toList.all fun c => decide (c ∈ abc.cps.toList)) = false := by
                cases e : (z.cps.toList.all fun c => decide (c ∈ abc.cps.toList)) with
                | false => rfl
                | true => exact absurd (of_decide_eq_true (List.all_eq_true.mp e c (List.mem_of_getElem? hc))) m
              rw [this] at q
              exact q
          · rintro σ H1 ⟨rfl, ⟨v, rfl⟩, all⟩
            rw [List.take_of_length_le (by simp)] at all
            have : (z.cps.toList.all fun c => decide (c ∈ abc.cps.toList)) = true := List.all_eq_true.mpr fun c hc => decide_eq_true (all c hc)
            rw [this] at q
            exact q
        · rw [decide_eq_false h2] at q ⊢
          exact iteT q
      · rw [decide_eq_false h1] at q ⊢
        exact iteF ⟨_, rfl, iteT q⟩
    · exact ⟨_, rfl, _, _, _, _, false, rfl, .ty _, ty, e1, false, rfl, iteT q⟩
theorem cl_is_name (T : Bt mg) (a : At K mg "is_name" s_is_name) : Cl P w K mg base 1 "is_name" (spIsName K) [] := a.cal (ps := ["thing"]) (fun _ _ F => ok_is_name T F) (fun _ _ _ _ _ _ us hl => match us, hl with | [_], _ => rfl)
theorem ok_is_row (T : Bt mg) {f : Addr} {fd : FuncData} (F : FunD K "is_row" "is_row" (defArgs s_is_row) (defBody s_is_row) (defScope s_is_row) [] [] f fd) : FnOk P w K mg base CX0 1 f fd ["thing"] (spIsRow K) := by
  refine F.ok sc_is_row (fun vs H Q E h => ?_) (fun cdv A outer s H vs Q E hr h => ?_)
  · obtain ⟨x, t, b, rfl, _⟩ := h
    rfl
  · obtain ⟨x, t, b, rfl, ty, e1, q⟩ := h
    refine ⟨_, PSs.nox (pss_one (ps_ret (pe_callB call_isiT (by rfl) T.b_isinstance (by decide +kernel) (pa_cons (pv 0) (pa_cons (pe_tup (pa_cons (pe_bltn (v := .ty "list") (by rfl) T.b_list (by decide +kernel) rfl) (pa_cons (pe_bltn (v := .ty "tuple") (by rfl) T.b_tuple (by decide +kernel) rfl) pa_nil))) pa_nil))))), ?_⟩
    refine ⟨_, rfl, (by show 2 ≤ sizeLine; decide), fun p hp => ?_⟩
    have ty' : TyX K (L2.upd H p (.tup [.ty "list", .ty "tuple"])) x t := tyx_keep ty (same_new (Same.refl _) hp)
    exact ⟨x, p, _, t, _, b, rfl, upd_same, .cons (.ty _) (.cons (.ty _) .nil), ty', e1, q _ (same_new (Same.refl _) hp)⟩
theorem cl_is_row (T : Bt mg) (a : At K mg "is_row" s_is_row) : Cl P w K mg base 1 "is_row" (spIsRow K) [] := a.cal (ps := ["thing"]) (fun _ _ F => ok_is_row T F) (fun _ _ _ _ _ _ us hl => match us, hl with | [_], _ => rfl)
end
end Lw

namespace Lw
open PySem PySem.Spec PyProof.Rows L2 Txs
open C8 (pe_gc)
/-! ### rows; small things that all parts need -/
/-- a list or a tuple, as isinstance finds it too -/
structure RowAt (K : PySem.W.Frag) (H : Hp) (a : Addr) (xs : List V) : Prop where
  sq : Sq K H a xs
  ty : ∃ t, TyX K H (.ref a) t ∧ PySem.W.kitAny K t [.type "list", .type "tuple"] = some true
theorem kit_list {K : PySem.W.Frag} : PySem.W.kitAny K (.type "list") [.type "list", .type "tuple"] = some true :=
  kitAny_cons (b := true) (kit_ty (by decide +kernel)) (fun q => nomatch q) fun _ => rfl
theorem kit_tuple {K : PySem.W.Frag} : PySem.W.kitAny K (.type "tuple") [.type "list", .type "tuple"] = some true :=
  kitAny_cons (b := false) (kit_ty (by decide +kernel)) (fun _ => kitAny_cons (b := true) (kit_ty (by decide +kernel)) (fun q => nomatch q) fun _ => rfl) fun q => nomatch q
theorem RowAt.lst {K : PySem.W.Frag} {H : Hp} {a : Addr} {xs : List V} (h : H a = some (.lst xs)) : RowAt K H a xs := ⟨.inl (SqL.of h), _, .base (.lst h), kit_list⟩
theorem RowAt.tup {K : PySem.W.Frag} {H : Hp} {a : Addr} {xs : List V} (h : H a = some (.tup xs)) : RowAt K H a xs := ⟨.inr (SqT.of h), _, .base (.tup h), kit_tuple⟩
theorem RowAt.same {K : PySem.W.Frag} {H H' : Hp} {a : Addr} {xs : List V} (h : RowAt K H a xs) (k : Same H H') : RowAt K H' a xs :=
  ⟨h.sq.same k, let ⟨t, y, e⟩ := h.ty; ⟨t, tyx_keep y k, e⟩⟩
theorem nm_len {x : PySem.Str} (h : Nm x) : x.length ≤ sizeLine := Nat.le_trans h.2.1 (by decide)
theorem putF_len (f : PySem.Str) (v : V) : ∀ fs : List (PySem.Str × V), (putF f v fs).length ≤ fs.length + 1
  | [] => Nat.le_refl _
  | q :: fs => by
    unfold putF
    split
    · simp
    · have := putF_len f v fs
      simp only [List.length_cons]
      omega
theorem sq_but {K : PySem.W.Frag} {H H' : Hp} {a p C dx : Addr} {fs : List (PySem.Str × V)} {xs : List V} (h : Sq K H a xs) (k : But p H H') (hp : H p = some (.ins C dx fs)) : Sq K H' a xs := by
  rcases h with ((h | ⟨o, h⟩) | h) | ((h | ⟨o, h⟩) | h)
  · exact .inl (.inl (.inl (k _ _ h (ne_of h hp fun z => nomatch z))))
  · exact .inl (.inl (.inr ⟨o, k _ _ h (ne_of h hp fun z => nomatch z)⟩))
  · exact .inl (.inr h)
  · exact .inr (.inl (.inl (k _ _ h (ne_of h hp fun z => nomatch z))))
  · exact .inr (.inl (.inr ⟨o, k _ _ h (ne_of h hp fun z => nomatch z)⟩))
  · exact .inr (.inr h)
theorem take_at {α : Type} {l : List α} {i : Nat} {x : α} (h : l[i]? = some x) : l.take (i + 1) = l.take i ++ [x] := by rw [List.take_add_one, h]; rfl
theorem not_before {α : Type} {l : List α} {i : Nat} {x : α} (nd : l.Nodup) (h : l[i]? = some x) : x ∉ l.take i := fun m => by
  obtain ⟨j, hj⟩ := List.mem_iff_getElem?.mp m
  rw [List.getElem?_take] at hj
  split at hj
  · have := nd_ix nd hj h
    omega
  · cases hj
theorem nodup_le {α : Type} [DecidableEq α] : ∀ {l m : List α}, l.Nodup → (∀ x ∈ l, x ∈ m) → l.length ≤ m.length
  | [], m, _, _ => Nat.zero_le _
  | a :: l, m, nd, h => by
    obtain ⟨n1, n2⟩ := List.nodup_cons.mp nd
    have am := h a List.mem_cons_self
    have ih := nodup_le (l := l) (m := m.erase a) n2 fun x hx => (List.mem_erase_of_ne fun e => n1 (by rw [← e]; exact hx)).mpr (h x (List.mem_cons_of_mem _ hx))
    have := List.length_erase_of_mem am
    have pos := List.length_pos_of_mem am
    simp only [List.length_cons]
    omega
end Lw

namespace Lw
open PySem PySem.Spec PyProof.Rows L2 Txs
open C8 (pe_gc)
/-! ### the law's own questions -/
theorem dp_ints {K : PySem.W.Frag} {H : Hp} : ∀ ns : List Int, DpAll K H (ns.map V.int) (ns.map PyData.int)
  | [] => .nil
  | n :: ns => .cons (.int n) (dp_ints ns)
theorem dp_strs {K : PySem.W.Frag} {H : Hp} : ∀ ws : List PySem.Str, DpAll K H (ws.map V.str) (ws.map PyData.str)
  | [] => .nil
  | w :: ws => .cons (.str w) (dp_strs ws)
theorem ints_lay : ∀ ns : List Int, PyData.canLayAll0 (ns.map PyData.int) = true
  | [] => by simp [PyData.canLayAll0]
  | n :: ns => by simp [PyData.canLayAll0, PyData.canLay0, ints_lay ns]
theorem ints_depth : ∀ ns : List Int, PyData.depthAll (ns.map PyData.int) ≤ 1
  | [] => by simp [PyData.depthAll]
  | n :: ns => by
    have := ints_depth ns
    simp only [List.map_cons, PyData.depthAll, PyData.depth]
    omega
theorem strs_lay : ∀ {ws : List PySem.Str}, (∀ w ∈ ws, PyData.strOk w = true) → PyData.canLayAll0 (ws.map PyData.str) = true
  | [], _ => by simp [PyData.canLayAll0]
  | w :: ws, h => by simp [PyData.canLayAll0, PyData.canLay0, h w List.mem_cons_self, strs_lay fun u hu => h u (List.mem_cons_of_mem _ hu)]
theorem strs_depth : ∀ ws : List PySem.Str, PyData.depthAll (ws.map PyData.str) ≤ 1
  | [] => by simp [PyData.depthAll]
  | w :: ws => by
    have := strs_depth ws
    simp only [List.map_cons, PyData.depthAll, PyData.depth]
    omega
theorem lst_shaped {ds : List PyData} (h : PyData.canLayAll0 ds = true) (k : PyData.depthAll ds ≤ 1) : SeqAt.shaped (.list ds) = true := by
  have h2 : PyData.depth (.list ds) ≤ 64 := by simp only [PyData.depth]; omega
  show ((PyData.list ds).canLay0 && decide ((PyData.list ds).depth ≤ 64)) = true
  rw [decide_eq_true h2, Bool.and_true]
  simp only [PyData.canLay0]
  exact h
theorem ints_shaped (ns : List Int) : SeqAt.shaped (.list (ns.map PyData.int)) = true := lst_shaped (ints_lay ns) (ints_depth ns)
theorem strs_shaped {ws : List PySem.Str} (h : ∀ w ∈ ws, PyData.strOk w = true) : SeqAt.shaped (.list (ws.map PyData.str)) = true := lst_shaped (strs_lay h) (strs_depth ws)
theorem eqv_same {d : PyData} (h : SeqAt.shaped d = true) : PyData.eqv d d = true := SeqAt.eqv_refl d (Bool.and_eq_true_iff.mp h).1
theorem bools_all (n : Nat) : (List.replicate n true).all id = true := by
  rw [List.all_eq_true]
  intro b hb
  rw [(List.mem_replicate.mp hb).2]
  rfl
end Lw

namespace Lw
open PySem PySem.Spec PyProof.Rows L2 Txs
open C8 (pe_gc)
/-! ### == by a class's own -/
/-- a class, read by its name -/
theorem pe_gref {X : Cx} {x : PySem.Str} {a : Addr} {pos : Pos} (hg : Gl X x) (hm : X.mg x = some (.ref a)) (hd : (x == ("__debug__" : PySem.Str)) = false := by decide) : PE X (.Name x pos) (tC (.ref a)) := pe_glob hg hm rfl hd
structure Oq (P : Program) (w : World) (K : PySem.W.Frag) (mg : PySem.Str → Option Value) (base : Heap) (k : Nat) (C : Addr) (sp : Sp) : Prop where
  ex : ∃ f fd ps, FnOk P w K mg base CX0 k f fd ps sp ∧ Binds K fd ps [] ∧ Cmps.Own K C f
section
variable {X : Cx} {k j : Nat} {C : Addr} {sp : Sp}
theorem op_oq (o : Oq X.prog X.w X.K X.mg X.base k C sp) (hr : Room j X.A) (hk : k ≤ j) : OpR X (compareOp .Eq) (Cmps.rEqI X.K C sp false) :=
  let ⟨_, _, _, F, b, O⟩ := o.ex
  Cmps.op_eqI F b O (hr.mono hk)
theorem op_on (o : Oq X.prog X.w X.K X.mg X.base k C sp) (hr : Room j X.A) (hk : k + 1 ≤ j) : OpR X (compareOp .NotEq) (Cmps.rEqI X.K C sp true) :=
  let ⟨_, _, _, F, b, O⟩ := o.ex
  Cmps.op_neI F b O (hr.mono hk)
end
section
variable {X : Cx} {k k2 j : Nat} {C C2 : Addr} {sp sp2 : Sp} {x : PySem.Str} {dvs : List V} {p pos : Pos}
/-- x == y, y an instance of C, x a built-in value or an instance of C2 -/
theorem op_l (o : Oq X.prog X.w X.K X.mg X.base k C sp) (o2 : Oq X.prog X.w X.K X.mg X.base k2 C2 sp2) (hr : Room j X.A) (hk : k ≤ j) (hk2 : k2 ≤ j) : OpR X (compareOp .Eq) (fun x y H Q => Cmps.rEqL X.K C sp x y H Q ∨ Cmps.rEqI X.K C2 sp2 false x y H Q) :=
  let ⟨_, _, _, F, b, O⟩ := o.ex
  Cmps.OpR.or (Cmps.op_eqL F b O (hr.mono hk)) (op_oq o2 hr hk2)
theorem pe_mr0 (c : Mr X.prog X.w X.K X.mg X.base k x C sp dvs) (hr : Room j X.A) (hk : k + 1 ≤ j) (hg : Gl X x) (h1 : (x == ("__debug__" : PySem.Str)) = false := by decide) : PE X (.Call (.Name x p) [] [] pos) (tMake C sp dvs E0 tNil) :=
  let ⟨_, _, _, _, M, F, hm, b, d⟩ := c.ex
  pe_make0 M F (hr.mono hk) hg hm b d pass0 h1
end
def kinds7 : List String := ["NoneType", "bool", "int", "str", "list", "tuple", "dict"]
/-- a class, as comparisons ask of it -/
def biB (K : PySem.W.Frag) (C : Addr) : Bool := (kinds7.all fun T => PySem.W.notFirst K C (.type T) && (decide (PySem.W.kitOne K (.type T) (.ref C) = some false) && decide (PySem.W.subIn K (.ref C) (.type T) = some false))) &&
  (He.eqO (PySem.W.findIn K (.ref C) "__class__") (some (some (.builtin "object.__class__"))) && (He.eqO (PySem.W.specialIn K (.builtin "object.__class__") "__get__") (some (some (.builtin "getset_descriptor.__get__"))) &&
  (decide (PySem.W.takesIn K (.builtin "object.__class__") = some true) && decide (PySem.W.mroIn K C (.type "object") = some true))))
structure Bi (K : PySem.W.Frag) (C : Addr) : Prop where
  nf : ∀ T ∈ kinds7, PySem.W.notFirst K C (.type T) = true
  kt : ∀ T ∈ kinds7, PySem.W.kitOne K (.type T) (.ref C) = some false
  nb : ∀ T ∈ kinds7, PySem.W.subIn K (.ref C) (.type T) = some false
  ty : ∀ {H : Hp} {a dx : Addr} {fs : List (PySem.Str × V)}, Cls K C → H a = some (.ins C dx fs) → TyX K H (.ref a) (.ref C)
theorem bi_ok {K : PySem.W.Frag} {C : Addr} (h : biB K C = true) : Bi K C := by
  obtain ⟨h1, h2⟩ := He.ba h
  obtain ⟨h3, h4⟩ := He.ba h2
  obtain ⟨h5, h6⟩ := He.ba h4
  obtain ⟨h7, h8⟩ := He.ba h6
  have h1 := List.all_eq_true.mp h1
  exact ⟨fun T hT => (He.ba (h1 T hT)).1, fun T hT => of_decide_eq_true (He.ba (He.ba (h1 T hT)).2).1, fun T hT => of_decide_eq_true (He.ba (He.ba (h1 T hT)).2).2, fun cl e => .base (.ins e cl (He.eqO_ok h3) (He.eqO_ok h5) (of_decide_eq_true h7) (of_decide_eq_true h8))⟩
def ownB (K : PySem.W.Frag) (C : Addr) : Bool := He.eqO (PySem.W.findIn K (.ref C) "__eq__") (some (some (.ref (He.ma K C "__eq__")))) && (PySem.W.isFn K (.ref (He.ma K C "__eq__")) && (He.eqO (PySem.W.findIn K (.ref C) "__ne__") (some (some (.builtin "object.__ne__"))) && decide (PySem.W.subIn K (.ref C) (.type "object") = some true)))
theorem own_ok {K : PySem.W.Frag} {C : Addr} (h : ownB K C = true) : Cmps.Own K C (He.ma K C "__eq__") := by
  obtain ⟨h1, h2⟩ := He.ba h
  obtain ⟨h3, h4⟩ := He.ba h2
  obtain ⟨h5, h6⟩ := He.ba h4
  exact ⟨He.eqO_ok h1, h3, He.eqO_ok h5, of_decide_eq_true h6⟩
theorem eqv_ints : ∀ ts us : List Int, PyData.eqvAll (ts.map PyData.int) (us.map PyData.int) = decide (ts = us)
  | [], [] => by simp [PyData.eqvAll]
  | [], u :: us => by simp [PyData.eqvAll]
  | t :: ts, [] => by simp [PyData.eqvAll]
  | t :: ts, u :: us => by
    have e : PyData.eqv (.int t) (.int u) = (t == u) := by simp only [PyData.eqv]
    simp only [List.map_cons, PyData.eqvAll, e, eqv_ints ts us]
    rw [Bool.beq_eq_decide_eq, ← Bool.decide_and]
    exact decide_eq_decide.mpr (by simp)
theorem eqv_intsL (ts us : List Int) : PyData.eqv (.list (ts.map PyData.int)) (.list (us.map PyData.int)) = decide (ts = us) := by simp only [PyData.eqv]; exact eqv_ints ts us
/-- a view's own == with what is no view -/
def spVwNo (K : PySem.W.Frag) (C : Addr) : Sp := fun vs H Q _ => ∃ p y t, vs = [.ref p, y] ∧ TyX K H y t ∧ PySem.W.kitOne K t (.ref C) = some false ∧ Q (.bl false) H
def spFlag : Sp := fun vs H Q _ => ∃ b, vs = [.bl b, .bl b] ∧ Q (.bl true) H
section
variable {P : Program} {w : World} {K : PySem.W.Frag} {mg : PySem.Str → Option Value} {base : Heap} {C : Addr}
theorem ok_vw_no (T : Bt mg) (g_View : mg "View" = some (.ref C)) {f : Addr} {fd : FuncData} (F : FunD K "__eq__" "View.__eq__" (defArgs s_View___eq__) (defBody s_View___eq__) (defScope s_View___eq__) [] [] f fd) : FnOk P w K mg base CX0 1 f fd ["self", "other"] (spVwNo K C) := by
  refine F.ok sc_View___eq__ (fun vs H Q E h => ?_) (fun cdv A0 outer s H vs Q E hr h => ?_)
  · obtain ⟨p, y, t, rfl, _⟩ := h
    rfl
  · have hu64 := hu64_of hr
    have hu := hu_of hr
    refine ⟨_, PSs.nox (pss_one (ps_ret (pe_and (pe_callB call_isi (by rfl) T.b_isinstance (by decide +kernel) (pa_cons (pv 1) (pa_cons (pe_gref rfl g_View) pa_nil))) (pe_and (pe_cmpR (op_eq_dictA hr.units0) (pe_fld (pv 0) rfl) (pe_fld (pv 1) rfl) (nomark _)) (pe_one (pe_cmpR (op_eqD hu64) (pe_fld (pv 0) rfl) (pe_fld (pv 1) rfl) (nomark _))))))), ?_⟩
    obtain ⟨p, y, t, rfl, ty, kt, q⟩ := h
    exact ⟨_, rfl, _, _, _, _, false, rfl, .own _, ty, kt, false, rfl, q⟩
theorem ok_flag (T : Bt mg) {f : Addr} {fd : FuncData} (F : FunD K "_law_flag" "_law_flag" (defArgs s_law_flag) (defBody s_law_flag) (defScope s_law_flag) [] [] f fd) : FnOk P w K mg base CX0 1 f fd ["_law_told", "_law_due"] spFlag := by
  refine F.ok sc_law_flag (fun vs H Q E h => ?_) (fun cdv A0 outer s H vs Q E hr h => ?_)
  · obtain ⟨b, rfl, _⟩ := h
    rfl
  · refine ⟨_, PSs.nox (pss_one (ps_ret (pe_and (pe_callB call_isi (by rfl) T.b_isinstance (by decide +kernel) (pa_cons (pv 0) (pa_cons (pe_bltn (v := .ty "bool") (by rfl) T.b_bool (by decide +kernel) rfl) pa_nil))) (pe_one (pe_cmpR op_eq (pv 0) (pv 1) (nomark _)))))), ?_⟩
    obtain ⟨b, rfl, q⟩ := h
    refine ⟨_, rfl, _, _, _, _, true, rfl, .ty _, .base (.bl b), kit_ty (by decide +kernel), true, rfl, _, rfl, _, rfl, rfl, ?_⟩
    rw [decide_eq_true rfl]
    exact q
theorem cl_flag (T : Bt mg) (a : At K mg "_law_flag" s_law_flag) : Cl P w K mg base 1 "_law_flag" spFlag [] := a.cal (ps := ["_law_told", "_law_due"]) (fun _ _ F => ok_flag T F) (fun _ _ _ _ _ _ us hl => match us, hl with | [_, _], _ => rfl)
end
end Lw

namespace Lw
open PySem PySem.Spec PyProof.Rows L2 Txs
open C8 (pe_gc)
/-! ### views -/
def sgV (es : List (PySem.Str × PySem.Str)) : List (Key × V) := es.map fun e => (.inr e.1, .str e.2)
structure VwC (K : PySem.W.Frag) (C : Addr) : Prop where
  cl : Cls K C
  n1 : NoAttr K C "sight_table"
  n2 : NoAttr K C "hold_list"
structure Vw where
  sights : List (PySem.Str × PySem.Str)
  holds : List PySem.Str
structure VwAt where
  p : Addr
  dx : Addr
  l1 : Addr
  l2 : Addr
def VwAt.lists (A : VwAt) : List Addr := [A.l1, A.l2]
def vwF (l1 l2 : Addr) : List (PySem.Str × V) := putF "hold_list" (.ref l2) (putF "sight_table" (.ref l1) [])
theorem vwF_sights (l1 l2 : Addr) : (vwF l1 l2).lookup ("sight_table" : PySem.Str) = some (.ref l1) := by
  unfold vwF
  rw [lookup_putF, if_neg (by decide +kernel), lookup_putF, if_pos rfl]
theorem vwF_holds (l1 l2 : Addr) : (vwF l1 l2).lookup ("hold_list" : PySem.Str) = some (.ref l2) := by
  unfold vwF
  rw [lookup_putF, if_pos rfl]
structure IsVw (C : Addr) (H : Hp) (A : VwAt) (d : Vw) : Prop where
  ins : H A.p = some (.ins C A.dx (vwF A.l1 A.l2))
  sights : H A.l1 = some (.dK (sgV d.sights))
  holds : H A.l2 = some (.lst (d.holds.map V.str))
  nd : (d.sights.map (·.1)).Nodup
  ok : ∀ e ∈ d.sights, Nm e.1 ∧ Nm e.2
  hk : ∀ h ∈ d.holds, Nm h
  asc : Asc d.holds
  small : d.sights.length ≤ 100 ∧ d.holds.length ≤ 60
theorem IsVw.same {C : Addr} {H H' : Hp} {A : VwAt} {d : Vw} (h : IsVw C H A d) (k : Same H H') : IsVw C H' A d :=
  ⟨k _ _ h.ins, k _ _ h.sights, k _ _ h.holds, h.nd, h.ok, h.hk, h.asc, h.small⟩
def spCheckSights (K : PySem.W.Frag) : Sp := fun vs H Q _ => ∃ a es, vs = [.ref a] ∧ H a = some (.dK (sgV es)) ∧ (∀ e ∈ es, Nm e.1 ∧ Nm e.2) ∧ ∀ H', Same H H' → Q .non H'
def spCheckWords (K : PySem.W.Frag) : Sp := fun vs H Q _ => ∃ (a : Addr) (hs : List PySem.Str), vs = [.ref a] ∧ RowAt K H a (hs.map V.str) ∧ (∀ h ∈ hs, Nm h) ∧ ∀ H', Same H H' → Q .non H'
def spView (K : PySem.W.Frag) (C : Addr) : Sp := fun vs H Q _ => ∃ (p dx : Addr) (sv : V) (b : Addr) (es : List (PySem.Str × PySem.Str)) (hs : List PySem.Str), vs = [.ref p, sv, .ref b] ∧ H p = some (.ins C dx []) ∧
  ((sv = .non ∧ es = []) ∨ ∃ a, sv = .ref a ∧ H a = some (.dK (sgV es))) ∧ (es.map (·.1)).Nodup ∧ (∀ e ∈ es, Nm e.1 ∧ Nm e.2) ∧ es.length ≤ 100 ∧ RowAt K H b (hs.map V.str) ∧ (∀ h ∈ hs, Nm h) ∧ hs.length ≤ 60 ∧
  ∀ (A : VwAt) (d : Vw) H', A.p = p → A.dx = dx → (∀ l ∈ A.lists, H l = none) → But p H H' → IsVw C H' A d → d.sights = es → (∀ x, x ∈ d.holds ↔ x ∈ hs) → Q .non H'
theorem same_unlock {a : Addr} {H H' : Hp} {u o : HO} (h : H a = some u) (k : But a (L2.upd H a o) H') : Same H (L2.upd H' a u) := fun b x e => by
  by_cases n : b = a
  · subst n
    rw [h] at e
    rw [upd_same]; exact e
  · rw [upd_ne n]
    exact k b x (by rw [upd_ne n]; exact e) n
theorem nm_size {x : PySem.Str} (h : Nm x) : x.length ≤ sizeLine := Nat.le_trans h.2.1 (by decide)
section
variable {P : Program} {w : World} {K : PySem.W.Frag} {mg : PySem.Str → Option Value} {base : Heap} {C : Addr}
theorem ok_check_sights (T : Bt mg) (c_is_name : Cl P w K mg base 1 "is_name" (spIsName K) []) {f : Addr} {fd : FuncData} (F : FunD K "check_sights" "check_sights" (defArgs s_check_sights) (defBody s_check_sights) (defScope s_check_sights) [] [] f fd) : FnOk P w K mg base CX0 2 f fd ["sights"] (spCheckSights K) := by
  refine F.ok sc_check_sights (fun vs H Q E h => ?_) (fun cdv A outer s H vs Q E hr h => ?_)
  · obtain ⟨a, es, rfl, _⟩ := h
    rfl
  · obtain ⟨a, es, rfl, ha, ok, k⟩ := h
    refine ⟨_, PSs.nox (pss_cons (ps_if (pt_not (pt_val (pe_callB call_isi (by rfl) T.b_isinstance (by decide +kernel) (pa_cons (pv 0) (pa_cons (pe_bltn (v := .ty "dict") (by rfl) T.b_dict (by decide +kernel) rfl) pa_nil))))) (pss_one ps_never) pss_nil) (pss_one (ps_lock (ps_for PassesOwn.never rfl (pi_items (pv 0)) (pg_tup rfl (pgs_cons (pg_name (i := 1) sc_check_sights.nd rfl (Or.inl rfl)) (pgs_cons (pg_name (i := 2) sc_check_sights.nd rfl (Or.inl rfl)) pgs_nil))) (pss_one (ps_if (PW.pt (pw_or (pt_not (pt_val (pe_cl c_is_name hr (by decide) rfl (pa_cons (pv 1) pa_nil)))) (pw_or1 (pt_not (pt_val (pe_cl c_is_name hr (by decide) rfl (pa_cons (pv 2) pa_nil))))))) (pss_one ps_never) pss_nil)))))), ?_⟩
    refine ⟨_, rfl, _, _, _, _, true, rfl, .ty _, .base (.dK ha), kit_ty (by decide +kernel), true, rfl, iteF ?_⟩
    refine ⟨a, _, ha, trivial, fun od => ?_⟩
    refine ⟨_, rfl, a, od, _, rfl, upd_same, for_it walk_items (fun i σ H' => ∃ v1 v2 : Option V, σ = [some (.ref a), v1, v2] ∧ But a (L2.upd H a (.frz od (.dK (sgV es)))) H' ∧ H' a = some (.frz od (.dK (sgV es)))) ?_ ?_ ?_ ?_⟩
    · exact ⟨_, _, rfl, But.refl, upd_same⟩
    · rintro i σ H' _ ⟨_, _, _, _, e⟩
      exact e
    · rintro i x σ H1 H2 hi ⟨v1, v2, rfl, b, e⟩ ⟨Tp, x1, y1, rfl, hT, rfl, hx, hy⟩
      replace hx : ((es.map fun e => ((Sum.inr e.1 : Key), V.str e.2))[i]?.map fun kv => kV kv.1) = some x1 := hx
      replace hy : ((es.map fun e => ((Sum.inr e.1 : Key), V.str e.2))[i]?.map Prod.snd) = some y1 := hy
      rw [List.getElem?_map] at hx hy
      obtain ⟨z, hz⟩ : ∃ z, es[i]? = some z := by
        cases q : es[i]? with
        | none => rw [q] at hx; cases hx
        | some z => exact ⟨z, rfl⟩
      rw [hz] at hx hy
      have hx : V.str z.1 = x1 := Option.some.inj hx
      have hy : V.str z.2 = y1 := Option.some.inj hy
      subst hx hy
      obtain ⟨o1, o2⟩ := ok z (List.mem_of_getElem? hz)
      have nT : a ≠ Tp := ne_of_none e hT
      refine ⟨Tp, _, rfl, SqT.of upd_same, rfl, _, _, rfl, _, _, rfl, rfl, ?_⟩
      refine ⟨_, rfl, .inl ⟨z.1, rfl, nm_size o1, ?_⟩⟩
      rw [nmB_iff.2 o1]
      refine ⟨true, rfl, iteF ?_⟩
      refine ⟨_, rfl, .inl ⟨z.2, rfl, nm_size o2, ?_⟩⟩
      rw [nmB_iff.2 o2]
      refine ⟨true, rfl, iteF ?_⟩
      exact ⟨_, _, rfl, b.new hT, by rw [upd_ne nT]; exact e⟩
    · rintro σ H1 ⟨v1, v2, rfl, b, e⟩
      exact ⟨e, k _ (same_unlock ha b)⟩
theorem cl_check_sights (T : Bt mg) (c_is_name : Cl P w K mg base 1 "is_name" (spIsName K) []) (a : At K mg "check_sights" s_check_sights) : Cl P w K mg base 2 "check_sights" (spCheckSights K) [] := a.cal (ps := ["sights"]) (fun _ _ F => ok_check_sights T c_is_name F) (fun _ _ _ _ _ _ us hl => match us, hl with | [_], _ => rfl)
theorem ok_check_words (T : Bt mg) (c_is_row : Cl P w K mg base 1 "is_row" (spIsRow K) []) (c_is_name : Cl P w K mg base 1 "is_name" (spIsName K) []) {f : Addr} {fd : FuncData} (F : FunD K "check_words" "check_words" (defArgs s_check_words) (defBody s_check_words) (defScope s_check_words) [] [] f fd) : FnOk P w K mg base CX0 2 f fd ["words"] (spCheckWords K) := by
  refine F.ok sc_check_words (fun vs H Q E h => ?_) (fun cdv A outer s H vs Q E hr h => ?_)
  · obtain ⟨a, hs, rfl, _⟩ := h
    rfl
  · obtain ⟨a, hs, rfl, row, ok, k⟩ := h
    refine ⟨_, PSs.nox (pss_cons (ps_if (pt_not (pt_val (pe_cl c_is_row hr (by decide) rfl (pa_cons (pv 0) pa_nil)))) (pss_one ps_never) pss_nil) (pss_one (ps_for PassesOwn.never rfl (pi_seq (pv 0)) (pg_name (i := 1) sc_check_words.nd rfl (Or.inl rfl)) (pss_one (ps_if (pt_not (pt_val (pe_cl c_is_name hr (by decide) rfl (pa_cons (pv 1) pa_nil)))) (pss_one ps_never) pss_nil))))), ?_⟩
    obtain ⟨t, ty, kt⟩ := row.ty
    refine ⟨_, rfl, _, t, true, rfl, ty, kt, fun H1 sm1 => ⟨true, rfl, iteF ?_⟩⟩
    refine ⟨_, rfl, a, rfl, for_seq (K := K) (xs := hs.map V.str) row.sq (fun i σ H' => ∃ v1 : Option V, σ = [some (.ref a), v1] ∧ Same H H') ?_ ?_ ?_ ?_⟩
    · exact ⟨_, rfl, sm1⟩
    · rintro i σ' H' _ ⟨_, _, sm⟩ o e
      exact sm _ _ e
    · rintro i x σ H2 hx ⟨v1, rfl, sm⟩
      rw [List.getElem?_map] at hx
      obtain ⟨z, hz, rfl⟩ := Option.map_eq_some_iff.mp hx
      have o1 := ok z (List.mem_of_getElem? hz)
      refine ⟨_, rfl, .inl ⟨z, rfl, nm_size o1, ?_⟩⟩
      rw [nmB_iff.2 o1]
      exact ⟨true, rfl, iteF ⟨_, rfl, sm⟩⟩
    · rintro σ H2 ⟨v1, rfl, sm⟩
      exact k H2 sm
theorem cl_check_words (T : Bt mg) (c_is_row : Cl P w K mg base 1 "is_row" (spIsRow K) []) (c_is_name : Cl P w K mg base 1 "is_name" (spIsName K) []) (a : At K mg "check_words" s_check_words) : Cl P w K mg base 2 "check_words" (spCheckWords K) [] := a.cal (ps := ["words"]) (fun _ _ F => ok_check_words T c_is_row c_is_name F) (fun _ _ _ _ _ _ us hl => match us, hl with | [_], _ => rfl)
theorem ok_view (T : Bt mg) (vc : VwC K C) (c_check_sights : Cl P w K mg base 2 "check_sights" (spCheckSights K) []) (c_check_words : Cl P w K mg base 2 "check_words" (spCheckWords K) []) {f : Addr} {fd : FuncData} {dvs : List V}
    (F : FunD K "__init__" "View.__init__" (defArgs s_View___init__) (defBody s_View___init__) (defScope s_View___init__) dvs [] f fd) : FnOk P w K mg base CX0 3 f fd ["self", "sights", "holds"] (spView K C) := by
  refine F.ok sc_View___init__ (fun vs H Q E h => ?_) (fun cdv A outer s H vs Q E hr h => ?_)
  · obtain ⟨p, dx, sv, b, es, hs, rfl, _⟩ := h
    rfl
  · obtain ⟨p, dx, sv, b, es, hs, rfl, hp, hsv, nd, ok, e100, rb, okh, h60, k⟩ := h
    refine ⟨_, PSs.nox (Evl.pss_cut (ps_if (pt_cmpR op_isN (pv 1) pe_non (nomark _)) (pss_one (ps_set (i := 1) sc_View___init__.nd rfl (Or.inl rfl) pe_dnewK)) pss_nil) (pss_cons (ps_expr (pe_cl c_check_sights hr (by decide) rfl (pa_cons (pv 1) pa_nil))) (pss_cons (ps_expr (pe_cl c_check_words hr (by decide) rfl (pa_cons (pv 2) pa_nil))) (pss_cons (ps_fld (pv 0) (pe_callTy call_dictD (by rfl) T.b_dict (by decide +kernel) (pa_cons (pv 1) pa_nil)) rfl) (pss_one (ps_fld (pv 0) (pe_callB (cr_sortedX rfl) (by rfl) T.b_sorted (by decide +kernel) (pa_cons (pe_callTy (cr_setL rfl) (by rfl) T.b_set (by decide +kernel) (pa_cons (pv 2) pa_nil)) pa_nil)) rfl)))))), ?_⟩
    refine ⟨fun σ' H' => ∃ a, σ' = [some (.ref p), some (.ref a), some (.ref b)] ∧ Same H H' ∧ H' a = some (.dK (sgV es)), ?_, ?_⟩
    · rcases hsv with ⟨rfl, rfl⟩ | ⟨a, rfl, ha⟩
      · refine ⟨_, rfl, rfl, _, rfl, ?_⟩
        refine iteT (fun a ha => ?_)
        exact ⟨a, rfl, same_new (Same.refl _) ha, upd_same⟩
      · refine ⟨_, rfl, rfl, _, rfl, ?_⟩
        exact iteF ⟨a, rfl, Same.refl _, ha⟩
    · rintro σ' H1 ⟨a, rfl, m1, ha⟩
      refine ⟨_, rfl, a, es, rfl, ha, ok, fun H2 m2 => ?_⟩
      have m2' := m1.trans m2
      refine ⟨_, rfl, b, hs, rfl, rb.same m2', okh, fun H3 m3 => ?_⟩
      have m3' := m2'.trans m3
      refine ⟨_, rfl, a, _, rfl, .inl (m3 _ _ (m2 _ _ ha)), fun l1 h1 => ?_⟩
      have p3 := m3' _ _ hp
      have z1 : p ≠ l1 := ne_of_none p3 h1
      have m4 := same_new m3' h1 (o := .dK (sgV es))
      have e4 : (L2.upd H3 l1 (.dK (sgV es))) l1 = some (.dK (sgV es)) := upd_same
      have p4 := m4 _ _ hp
      generalize L2.upd H3 l1 (.dK (sgV es)) = H4 at m4 e4 p4 ⊢
      refine ⟨_, rfl, p, C, dx, _, rfl, p4, vc.cl, vc.n1, by show 0 < 1000; decide, ?_⟩
      have b5 : But p H (L2.upd H4 p (.ins C dx (putF "sight_table" (.ref l1) []))) := (But.of m4).trans But.upd
      have p5 : (L2.upd H4 p (.ins C dx (putF "sight_table" (.ref l1) []))) p = some (.ins C dx (putF "sight_table" (.ref l1) [])) := upd_same
      have e5 : (L2.upd H4 p (.ins C dx (putF "sight_table" (.ref l1) []))) l1 = some (.dK (sgV es)) := by rw [upd_ne z1.symm]; exact e4
      have rb5 : Sq K (L2.upd H4 p (.ins C dx (putF "sight_table" (.ref l1) []))) b (hs.map V.str) := sq_but rb.sq b5 hp
      generalize L2.upd H4 p (.ins C dx (putF "sight_table" (.ref l1) [])) = H5 at b5 p5 e5 rb5 ⊢
      refine ⟨_, rfl, b, hs, rfl, rb5, by unfold scanBound; omega, fun q c hq hc => ?_⟩
      refine ⟨q, _, c, rfl, upd_same, by omega, fun ys l2 asc mem len h2 => ?_⟩
      generalize SetX (cxOf CX0 P w K mg base N_View___init__ "View.__init__" (defScope s_View___init__) f cdv A outer s H E).nox.prog (cxOf CX0 P w K mg base N_View___init__ "View.__init__" (defScope s_View___init__) f cdv A outer s H E).nox.w q (fun x => decide (x ∈ hs)) c = so at h2 ⊢
      have n6 := same_new (Same.refl H5) hq (o := so)
      have n7 := same_new n6 h2 (o := .lst (ys.map V.str))
      have f2 : H l2 = none := by
        cases z : H l2 with
        | none => rfl
        | some u =>
          have np : l2 ≠ p := fun e => by
            have := n6 _ _ p5
            rw [e, this] at h2; cases h2
          have := n6 _ _ (b5 _ _ z np)
          rw [this] at h2; cases h2
      have f1 : H l1 = none := m3'.free h1
      have p7 := n7 _ _ p5
      have z2 : l2 ≠ p := fun e => by
        have := n6 _ _ p5
        rw [e, this] at h2; cases h2
      refine ⟨_, rfl, p, C, dx, _, rfl, p7, vc.cl, vc.n2, Nat.lt_of_le_of_lt (putF_len _ _ _) (by decide), ?_⟩
      refine k ⟨p, dx, l1, l2⟩ ⟨es, ys⟩ _ rfl rfl ?_ ?_ ⟨upd_same, ?_, ?_, nd, ok, ?_, asc, e100, ?_⟩ rfl ?_
      · intro l hl
        simp only [VwAt.lists, List.mem_cons, List.not_mem_nil, or_false] at hl
        rcases hl with rfl | rfl
        · exact f1
        · exact f2
      · exact (b5.trans (But.of n7)).trans But.upd
      · rw [upd_ne z1.symm]; exact n7 _ _ e5
      · rw [upd_ne z2]; exact upd_same
      · exact fun h hh => okh h (of_decide_eq_true ((mem h).1 hh))
      · show ys.length ≤ 60
        omega
      · exact fun x => (mem x).trans decide_eq_true_iff
theorem ok_vw_eq (T : Bt mg) (vc : VwC K C) (g_View : mg "View" = some (.ref C)) {f : Addr} {fd : FuncData} (F : FunD K "__eq__" "View.__eq__" (defArgs s_View___eq__) (defBody s_View___eq__) (defScope s_View___eq__) [] [] f fd) : True := trivial
end
end Lw

namespace Lw
open PySem PySem.Spec PyProof.Rows L2 Txs
open C8 (pe_gc)
/-! ### what a view answers -/
/-- an own special method, with its promise -/
structure Ow (P : Program) (w : World) (K : PySem.W.Frag) (mg : PySem.Str → Option Value) (base : Heap) (k : Nat) (C : Addr) (n : PySem.Str) (sp : Sp) : Prop where
  ex : ∃ f fd ps, FnOk P w K mg base CX0 k f fd ps sp ∧ Binds K fd ps [] ∧ Itms.Spc K C n f
/-- a method that is called by its name -/
structure Me (P : Program) (w : World) (K : PySem.W.Frag) (mg : PySem.Str → Option Value) (base : Heap) (k : Nat) (C : Addr) (m : PySem.Str) (sp : Sp) : Prop where
  ex : ∃ f fd ps, Meth K C m f ∧ Cls K C ∧ FnOk P w K mg base CX0 k f fd ps sp ∧ Binds K fd ps []
section
variable {X : Cx} {k j : Nat} {C : Addr} {sp : Sp} {m : PySem.Str} {o e a b : Expr} {es : List Expr} {ta tb : TE} {t : TA} {apos pos : Pos}
theorem op_wn (c : Ow X.prog X.w X.K X.mg X.base k C "__contains__" sp) (hr : Room j X.A) (hk : k ≤ j) : OpR X (compareOp .In) (Itms.rInI C sp false) :=
  let ⟨_, _, _, F, b, O⟩ := c.ex
  Itms.op_inI F b O (hr.mono hk)
theorem call_wl (c : Ow X.prog X.w X.K X.mg X.base k C "__len__" sp) (hr : Room j X.A) (hk : k + 1 ≤ j) : CallR X (.builtin "len") (Itms.rLenI C sp) :=
  let ⟨_, _, _, F, b, O⟩ := c.ex
  Itms.call_lenI F b O (hr.mono hk)
theorem pe_wi (c : Ow X.prog X.w X.K X.mg X.base k C "__getitem__" sp) (hr : Room j X.A) (hk : k + 1 ≤ j) (ha : PE X a ta) (he : PE X b tb)
    (hs : ∀ (o : Addr) (i : Value), subscripted b true (.ref o) i = runValue (.builtin "lifetime.subscript" ⟨[.ref o, i], []⟩) := by intro _ _; with_unfolding_all rfl) : PE X (.Subscript a b pos) (tOp (Itms.rIxI C sp) ta tb) :=
  let ⟨_, _, _, F, b, O⟩ := c.ex
  Itms.pe_ixI F b O (hr.mono hk) ha he hs
theorem set_wi (c : Ow X.prog X.w X.K X.mg X.base k C "__setitem__" sp) (hr : Room j X.A) (hk : k ≤ j) : PSet X (Itms.rSetI C sp) :=
  let ⟨_, _, _, F, b, O⟩ := c.ex
  Itms.set_insI F b O (hr.mono hk)
theorem pe_me {pl : Sem Bool} (c : Me X.prog X.w X.K X.mg X.base k C m sp) (hr : Room j X.A) (hk : k ≤ j) (he : PE X o ta) (ha : PA X (e :: es) t)
    (hst : starEach (e :: es) X.env = (false, eval e X.env) :: starEach es X.env := by rfl) (hpl : (backTo pos (starEach es X.env)).any (·.1) = false := by rfl)
    (ht : eval (.Call (.Attribute o m apos) (e :: es) [] pos) X.env = (do
      let ov ← eval o X.env
      standAt apos.atName
      let (f, first) ← holding [ov] (getMethod ov m pl)
      callWith pos f first (backTo pos (starEach (e :: es) X.env)) (backToKw pos (keywordEach [] X.env))) := by rfl) :
    PE X (.Call (.Attribute o m apos) (e :: es) [] pos) (tMeth C m sp [] E0 ta t) :=
  let ⟨_, _, _, M, cl, F, b⟩ := c.ex
  pe_meth (pl := pl) he cl M F (hr.mono hk) b .nil pass0 ha hst hpl ht
theorem pe_me0 {pl : Sem Bool} (c : Me X.prog X.w X.K X.mg X.base k C m sp) (hr : Room j X.A) (hk : k ≤ j) (he : PE X o ta)
    (ht : eval (.Call (.Attribute o m apos) [] [] pos) X.env = (do
      let ov ← eval o X.env
      standAt apos.atName
      let (f, first) ← holding [ov] (getMethod ov m pl)
      callWith pos f first (backTo pos (starEach [] X.env)) (backToKw pos (keywordEach [] X.env))) := by rfl) :
    PE X (.Call (.Attribute o m apos) [] [] pos) (tMeth C m sp [] E0 ta tNil) :=
  let ⟨_, _, _, M, cl, F, b⟩ := c.ex
  pe_meth0 (pl := pl) he cl M F (hr.mono hk) b .nil pass0 ht
end
/-- what a class's own special method needs of the top -/
def spcB (K : PySem.W.Frag) (C : Addr) (n : PySem.Str) : Bool := He.eqO (PySem.W.findIn K (.ref C) n) (some (some (.ref (He.ma K C n)))) && (PySem.W.isFn K (.ref (He.ma K C n)) && (PySem.W.fnIn K (He.ma K C n) && PySem.W.noSeq K C))
theorem spc_ok {K : PySem.W.Frag} {C : Addr} {n : PySem.Str} (h : spcB K C n = true) : Itms.Spc K C n (He.ma K C n) := by
  obtain ⟨h1, h2⟩ := He.ba h
  obtain ⟨h3, h4⟩ := He.ba h2
  obtain ⟨h5, h6⟩ := He.ba h4
  exact ⟨He.eqO_ok h1, h3, h5, h6⟩
/-! tables of texts -/
theorem inr_eq {x y : PySem.Str} : ((.inr x : Key) = .inr y) = (x = y) := propext ⟨fun h => by injection h, fun h => by rw [h]⟩
theorem str_eq {x y : PySem.Str} : (V.str x = V.str y) = (x = y) := propext ⟨fun h => by injection h, fun h => by rw [h]⟩
theorem sg_in {es : List (PySem.Str × PySem.Str)} (nd : (es.map (·.1)).Nodup) {x y : PySem.Str} (h : (x, y) ∈ es) : valV (sgV es) (.inr x) = some (.str y) := by
  induction es with
  | nil => cases h
  | cons e es ih =>
    simp only [List.map_cons, List.nodup_cons] at nd
    show valV (((.inr e.1 : Key), V.str e.2) :: sgV es) (.inr x) = _
    rcases List.mem_cons.mp h with q | q
    · rw [← q]
      exact valV_pos rfl
    · rw [valV_neg (by
        intro z
        have z : e.1 = x := by simpa [inr_eq] using z
        exact nd.1 (by rw [z]; exact List.mem_map.mpr ⟨_, q, rfl⟩))]
      exact ih nd.2 q
theorem sg_some {es : List (PySem.Str × PySem.Str)} {x : PySem.Str} {v : V} (h : valV (sgV es) (.inr x) = some v) : ∃ y, v = .str y ∧ (x, y) ∈ es := by
  induction es with
  | nil => cases h
  | cons e es ih =>
    change valV (((.inr e.1 : Key), V.str e.2) :: sgV es) (.inr x) = _ at h
    by_cases q : (.inr e.1 : Key) = .inr x
    · rw [valV_pos q] at h
      have q : e.1 = x := by simpa [inr_eq] using q
      exact ⟨e.2, (Option.some.inj h).symm, by rw [← q]; exact List.mem_cons_self⟩
    · rw [valV_neg q] at h
      obtain ⟨y, e1, e2⟩ := ih h
      exact ⟨y, e1, List.mem_cons_of_mem _ e2⟩
theorem sg_perm {es fs : List (PySem.Str × PySem.Str)} (p : es.Perm fs) (nd : (es.map (·.1)).Nodup) (x : PySem.Str) : valV (sgV es) (.inr x) = valV (sgV fs) (.inr x) := by
  have nd' : (fs.map (·.1)).Nodup := (p.map _).nodup_iff.1 nd
  cases h : valV (sgV es) (.inr x) with
  | some v =>
    obtain ⟨y, rfl, m⟩ := sg_some h
    exact (sg_in nd' (p.mem_iff.1 m)).symm
  | none =>
    cases g : valV (sgV fs) (.inr x) with
    | none => rfl
    | some v =>
      obtain ⟨y, rfl, m⟩ := sg_some g
      rw [sg_in nd (p.mem_iff.2 m)] at h
      cases h
theorem sg_keys (es : List (PySem.Str × PySem.Str)) : (sgV es).map (·.1) = (es.map (·.1)).map Sum.inr := by
  unfold sgV
  rw [List.map_map, List.map_map]
  rfl
theorem sg_len (es : List (PySem.Str × PySem.Str)) : (sgV es).length = es.length := by unfold sgV; rw [List.length_map]
/-- equal dicts, as == asks of them -/
theorem sg_deq {es fs : List (PySem.Str × PySem.Str)} (p : es.Perm fs) (nd : (es.map (·.1)).Nodup) : (sgV es).length = (sgV fs).length ∧ ∀ q ∈ sgV es, valV (sgV fs) q.1 = some q.2 ∧ flatB q.2 = true := by
  refine ⟨by rw [sg_len, sg_len, p.length_eq], fun q hq => ?_⟩
  obtain ⟨e, he, rfl⟩ := List.mem_map.mp hq
  exact ⟨sg_in ((p.map _).nodup_iff.1 nd) (p.mem_iff.1 he), rfl⟩
theorem asc_of {ys zs : List PySem.Str} (p : ys.Perm zs) (s : sortedS ys = true) (nd : zs.Nodup) : Asc ys := ⟨s, p.nodup_iff.2 nd⟩
def spVwWords (C : Addr) : Sp := fun vs H Q _ => ∃ A d, vs = [.ref A.p] ∧ IsVw C H A d ∧ d.sights.length < 64 ∧ ∀ (ys : List PySem.Str) p, Asc ys → (∀ x, x ∈ ys ↔ x ∈ d.sights.map (·.1)) → H p = none → Q (.ref p) (upd H p (.lst (ys.map V.str)))
def spVwSights (C : Addr) : Sp := fun vs H Q _ => ∃ A d, vs = [.ref A.p] ∧ IsVw C H A d ∧ ∀ p, H p = none → Q (.ref p) (upd H p (.dK (sgV d.sights)))
def spVwHolds (C : Addr) : Sp := fun vs H Q _ => ∃ A d, vs = [.ref A.p] ∧ IsVw C H A d ∧ ∀ p, H p = none → Q (.ref p) (upd H p (.lst (d.holds.map V.str)))
def spVwLen (C : Addr) : Sp := fun vs H Q _ => ∃ A d, vs = [.ref A.p] ∧ IsVw C H A d ∧ Q (.int d.sights.length) H
def spVwIn (K : PySem.W.Frag) (C : Addr) : Sp := fun vs H Q _ => ∃ A d x, vs = [.ref A.p, x] ∧ IsVw C H A d ∧ ((∃ z, x = .str z ∧ z.length ≤ sizeLine ∧ Q (.bl (nmB z && (valV (sgV d.sights) (.inr z)).isSome)) H) ∨ ∃ t, TyX K H x t ∧ PySem.W.kitOne K t (.type "str") = some false ∧ Q (.bl false) H)
def spVwItem (C : Addr) : Sp := fun vs H Q _ => ∃ A d z, vs = [.ref A.p, .str z] ∧ IsVw C H A d ∧ Nm z ∧ Q ((valV (sgV d.sights) (.inr z)).getD .non) H
def spVwSet (C : Addr) : Sp := fun vs H Q _ => ∃ A d z v, vs = [.ref A.p, .str z, v] ∧ IsVw C H A d ∧ Nm z ∧ ((∃ y, v = .str y ∧ Nm y ∧ Q .non (upd H A.l1 (.dK (putK (sgV d.sights) (.inr z) (.str y))))) ∨
  (v = .non ∧ (valV (sgV d.sights) (.inr z) = none → Q .non H) ∧ ((valV (sgV d.sights) (.inr z)).isSome = true → Q .non (upd H A.l1 (.dK (dropK (sgV d.sights) (.inr z)))))))
def spVwHold (K : PySem.W.Frag) (C : Addr) : Sp := fun vs H Q _ => ∃ (A : VwAt) (d : Vw) (b : Addr) (hs : List PySem.Str), vs = [.ref A.p, .ref b] ∧ IsVw C H A d ∧ RowAt K H b (hs.map V.str) ∧ (∀ h ∈ hs, Nm h) ∧ hs.length ≤ 60 ∧
  ∀ (l2 : Addr) (ys : List PySem.Str) H', H l2 = none → But A.p H H' → IsVw C H' ⟨A.p, A.dx, A.l1, l2⟩ ⟨d.sights, ys⟩ → (∀ x, x ∈ ys ↔ x ∈ hs) → Q .non H'
def spVwCopy (C : Addr) : Sp := fun vs H Q _ => ∃ A d, vs = [.ref A.p] ∧ IsVw C H A d ∧ ∀ (B : VwAt) H', H B.p = none → (∀ l ∈ B.lists, H l = none) → Same H H' → IsVw C H' B d → Q (.ref B.p) H'
def spVwEq (K : PySem.W.Frag) (C : Addr) : Sp := fun vs H Q _ => (∃ A B d e, vs = [.ref A.p, .ref B.p] ∧ IsVw C H A d ∧ IsVw C H B e ∧ TyX K H (.ref B.p) (.ref C) ∧ d.sights.Perm e.sights ∧ Q (.bl (decide (d.holds = e.holds))) H) ∨ spVwNo K C vs H Q E0
theorem nm_ok1 {x : PySem.Str} (h : Nm x) : PyData.strOk x = true := by
  unfold PyData.strOk
  rw [← Array.all_toList, List.all_eq_true]
  intro c hc
  have := h.2.2 c hc
  exact decide_eq_true (by omega)
theorem eqv_strs : ∀ ts us : List PySem.Str, PyData.eqvAll (ts.map PyData.str) (us.map PyData.str) = decide (ts = us)
  | [], [] => by simp [PyData.eqvAll]
  | [], u :: us => by simp [PyData.eqvAll]
  | t :: ts, [] => by simp [PyData.eqvAll]
  | t :: ts, u :: us => by
    have e : PyData.eqv (.str t) (.str u) = (t == u) := by simp only [PyData.eqv]
    simp only [List.map_cons, PyData.eqvAll, e, eqv_strs ts us]
    rw [Bool.beq_eq_decide_eq, ← Bool.decide_and]
    exact decide_eq_decide.mpr (by simp)
theorem eqv_strsL (ts us : List PySem.Str) : PyData.eqv (.list (ts.map PyData.str)) (.list (us.map PyData.str)) = decide (ts = us) := by simp only [PyData.eqv]; exact eqv_strs ts us
section
variable {P : Program} {w : World} {K : PySem.W.Frag} {mg : PySem.Str → Option Value} {base : Heap} {C : Addr}
theorem ok_vw_words (T : Bt mg) (vc : VwC K C) {f : Addr} {fd : FuncData} (F : FunD K "words" "View.words" (defArgs s_View_words) (defBody s_View_words) (defScope s_View_words) [] [] f fd) : FnOk P w K mg base CX0 1 f fd ["self"] (spVwWords C) := by
  refine F.ok sc_View_words (fun vs H Q E h => ?_) (fun cdv A0 outer s H vs Q E hr h => ?_)
  · obtain ⟨A, d, rfl, _⟩ := h
    rfl
  · refine ⟨_, PSs.nox (pss_one (ps_ret (pe_callB (call_sortedD rfl) (by rfl) T.b_sorted (by decide +kernel) (pa_cons (pe_fld (pv 0) rfl) pa_nil)))), ?_⟩
    obtain ⟨A, d, rfl, i, lt, k⟩ := h
    refine ⟨_, rfl, A.p, C, A.dx, _, _, rfl, i.ins, vc.cl, vc.n1, vwF_sights _ _, A.l1, _, d.sights.map (·.1), rfl, .inl i.sights, sg_keys _, by rw [List.length_map]; exact lt, fun ys p pm so hp => ?_⟩
    exact k ys p (asc_of pm so i.nd) (fun x => pm.mem_iff) hp
theorem ok_vw_sights (T : Bt mg) (vc : VwC K C) {f : Addr} {fd : FuncData} (F : FunD K "sights" "View.sights" (defArgs s_View_sights) (defBody s_View_sights) (defScope s_View_sights) [] [] f fd) : FnOk P w K mg base CX0 1 f fd ["self"] (spVwSights C) := by
  refine F.ok sc_View_sights (fun vs H Q E h => ?_) (fun cdv A0 outer s H vs Q E hr h => ?_)
  · obtain ⟨A, d, rfl, _⟩ := h
    rfl
  · refine ⟨_, PSs.nox (pss_one (ps_ret (pe_callTy call_dictD (by rfl) T.b_dict (by decide +kernel) (pa_cons (pe_fld (pv 0) rfl) pa_nil)))), ?_⟩
    obtain ⟨A, d, rfl, i, k⟩ := h
    exact ⟨_, rfl, A.p, C, A.dx, _, _, rfl, i.ins, vc.cl, vc.n1, vwF_sights _ _, A.l1, _, rfl, .inl i.sights, k⟩
theorem ok_vw_holds (T : Bt mg) (vc : VwC K C) {f : Addr} {fd : FuncData} (F : FunD K "holds" "View.holds" (defArgs s_View_holds) (defBody s_View_holds) (defScope s_View_holds) [] [] f fd) : FnOk P w K mg base CX0 1 f fd ["self"] (spVwHolds C) := by
  refine F.ok sc_View_holds (fun vs H Q E h => ?_) (fun cdv A0 outer s H vs Q E hr h => ?_)
  · obtain ⟨A, d, rfl, _⟩ := h
    rfl
  · refine ⟨_, PSs.nox (pss_one (ps_ret (pe_callTy call_list_of (by rfl) T.b_list (by decide +kernel) (pa_cons (pe_fld (pv 0) rfl) pa_nil)))), ?_⟩
    obtain ⟨A, d, rfl, i, k⟩ := h
    exact ⟨_, rfl, A.p, C, A.dx, _, _, rfl, i.ins, vc.cl, vc.n2, vwF_holds _ _, A.l2, _, rfl, .inl (SqL.of i.holds), k⟩
theorem ok_vw_len (T : Bt mg) (vc : VwC K C) {f : Addr} {fd : FuncData} (F : FunD K "__len__" "View.__len__" (defArgs s_View___len__) (defBody s_View___len__) (defScope s_View___len__) [] [] f fd) : FnOk P w K mg base CX0 1 f fd ["self"] (spVwLen C) := by
  refine F.ok sc_View___len__ (fun vs H Q E h => ?_) (fun cdv A0 outer s H vs Q E hr h => ?_)
  · obtain ⟨A, d, rfl, _⟩ := h
    rfl
  · refine ⟨_, PSs.nox (pss_one (ps_ret (pe_callB call_lenD (by rfl) T.b_len PySem.boot_len (pa_cons (pe_fld (pv 0) rfl) pa_nil)))), ?_⟩
    obtain ⟨A, d, rfl, i, k⟩ := h
    refine ⟨_, rfl, A.p, C, A.dx, _, _, rfl, i.ins, vc.cl, vc.n1, vwF_sights _ _, A.l1, _, rfl, i.sights, ?_⟩
    rw [sg_len]
    exact k
theorem ok_vw_in (T : Bt mg) (vc : VwC K C) (c_is_name : Cl P w K mg base 1 "is_name" (spIsName K) []) {f : Addr} {fd : FuncData} (F : FunD K "__contains__" "View.__contains__" (defArgs s_View___contains__) (defBody s_View___contains__) (defScope s_View___contains__) [] [] f fd) : FnOk P w K mg base CX0 2 f fd ["self", "x"] (spVwIn K C) := by
  refine F.ok sc_View___contains__ (fun vs H Q E h => ?_) (fun cdv A0 outer s H vs Q E hr h => ?_)
  · obtain ⟨A, d, x, rfl, _⟩ := h
    rfl
  · have hu := hu_of hr
    refine ⟨_, PSs.nox (pss_one (ps_ret (pe_and (pe_cl c_is_name hr (by decide) rfl (pa_cons (pv 1) pa_nil)) (pe_one (pe_cmp (pc_din hu (pv 1) (pe_fld (pv 0) rfl))))))), ?_⟩
    obtain ⟨A, d, x, rfl, i, ⟨z, rfl, lz, k⟩ | ⟨t, ty, kt, k⟩⟩ := h
    · refine ⟨_, rfl, .inl ⟨z, rfl, lz, ?_⟩⟩
      cases q : nmB z with
      | false =>
        rw [q] at k
        exact ⟨_, rfl, k⟩
      | true =>
        rw [q] at k
        refine ⟨_, rfl, _, rfl, _, rfl, A.p, C, A.dx, _, _, rfl, i.ins, vc.cl, vc.n1, vwF_sights _ _, A.l1, _, rfl, DGet.k (k := .inr z) i.sights, k⟩
    · exact ⟨_, rfl, .inr ⟨_, t, rfl, ty, kt, _, rfl, k⟩⟩
theorem ok_vw_item (T : Bt mg) (vc : VwC K C) (c_is_name : Cl P w K mg base 1 "is_name" (spIsName K) []) {f : Addr} {fd : FuncData} (F : FunD K "__getitem__" "View.__getitem__" (defArgs s_View___getitem__) (defBody s_View___getitem__) (defScope s_View___getitem__) [] [] f fd) : FnOk P w K mg base CX0 2 f fd ["self", "at"] (spVwItem C) := by
  refine F.ok sc_View___getitem__ (fun vs H Q E h => ?_) (fun cdv A0 outer s H vs Q E hr h => ?_)
  · obtain ⟨A, d, x, rfl, _⟩ := h
    rfl
  · have hu := hu_of hr
    refine ⟨_, PSs.nox (pss_cons (ps_if (pt_not (pt_val (pe_cl c_is_name hr (by decide) rfl (pa_cons (pv 1) pa_nil)))) (pss_one ps_never) pss_nil) (pss_one (ps_ret (pe_dget1 hu (pe_fld (pv 0) rfl) (pv 1) ⟨by rfl, by rfl, by rfl, by rfl⟩)))), ?_⟩
    obtain ⟨A, d, z, rfl, i, nz, k⟩ := h
    refine ⟨_, rfl, .inl ⟨z, rfl, nm_size nz, ?_⟩⟩
    rw [nmB_iff.2 nz]
    refine ⟨true, rfl, iteF ?_⟩
    exact ⟨_, rfl, A.p, C, A.dx, _, _, rfl, i.ins, vc.cl, vc.n1, vwF_sights _ _, A.l1, rfl, .inl ⟨_, .inl i.sights⟩, _, rfl, _, DGet.k (k := .inr z) i.sights, k⟩
theorem ok_vw_set (T : Bt mg) (vc : VwC K C) (c_is_name : Cl P w K mg base 1 "is_name" (spIsName K) []) {f : Addr} {fd : FuncData} (F : FunD K "__setitem__" "View.__setitem__" (defArgs s_View___setitem__) (defBody s_View___setitem__) (defScope s_View___setitem__) [] [] f fd) : FnOk P w K mg base CX0 2 f fd ["self", "at", "worth"] (spVwSet C) := by
  refine F.ok sc_View___setitem__ (fun vs H Q E h => ?_) (fun cdv A0 outer s H vs Q E hr h => ?_)
  · obtain ⟨A, d, x, v, rfl, _⟩ := h
    rfl
  · have hu := hu_of hr
    refine ⟨_, PSs.nox (pss_cons (ps_if (pt_not (pt_val (pe_cl c_is_name hr (by decide) rfl (pa_cons (pv 1) pa_nil)))) (pss_one ps_never) pss_nil) (pss_cons (ps_if (PW.pt (pw_and (pt_cmpR op_notN (pv 2) pe_non (nomark _)) (pw_and1 (pt_not (pt_val (pe_cl c_is_name hr (by decide) rfl (pa_cons (pv 2) pa_nil))))))) (pss_one ps_never) pss_nil) (pss_one (ps_if (pt_cmpR op_notN (pv 2) pe_non (nomark _)) (pss_one (ps_dput hu (pe_fld (pv 0) rfl) (pv 1) (pv 2) rfl)) (pss_one (ps_if (pt_cmp (pc_din hu (pv 1) (pe_fld (pv 0) rfl))) (pss_one (ps_ddel (pe_fld (pv 0) rfl) (pv 1))) pss_nil)))))), ?_⟩
    obtain ⟨A, d, z, v, rfl, i, nz, h⟩ := h
    have few : (sgV d.sights).length ≤ 100 := by rw [sg_len]; exact i.small.1
    refine ⟨_, rfl, .inl ⟨z, rfl, nm_size nz, ?_⟩⟩
    rw [nmB_iff.2 nz]
    refine ⟨true, rfl, iteF ?_⟩
    rcases h with ⟨y, rfl, ny, k⟩ | ⟨rfl, k1, k2⟩
    · refine ⟨_, rfl, rfl, _, rfl, iteT ?_⟩
      refine ⟨_, rfl, .inl ⟨y, rfl, nm_size ny, ?_⟩⟩
      rw [nmB_iff.2 ny]
      refine ⟨true, rfl, iteF ?_⟩
      refine ⟨_, rfl, rfl, _, rfl, iteT ?_⟩
      exact ⟨_, rfl, _, rfl, A.p, C, A.dx, _, _, rfl, i.ins, vc.cl, vc.n1, vwF_sights _ _, _, rfl, A.l1, _, rfl, DPut.k (k := .inr z) i.sights (small1000 (by omega)), k⟩
    · refine ⟨_, rfl, rfl, _, rfl, iteF ?_⟩
      refine ⟨_, rfl, rfl, _, rfl, iteF ?_⟩
      refine ⟨_, rfl, _, rfl, A.p, C, A.dx, _, _, rfl, i.ins, vc.cl, vc.n1, vwF_sights _ _, A.l1, _, rfl, DGet.k (k := .inr z) i.sights, _, rfl, ?_⟩
      cases q : valV (sgV d.sights) (.inr z : Key) with
      | none => exact iteF (k1 q)
      | some u => exact iteT ⟨_, rfl, A.p, C, A.dx, _, _, rfl, i.ins, vc.cl, vc.n1, vwF_sights _ _, _, rfl, A.l1, _, .inr z, rfl, i.sights, rfl, by rw [q]; rfl, k2 (by rw [q]; rfl)⟩
theorem ok_vw_hold (T : Bt mg) (vc : VwC K C) (c_check_words : Cl P w K mg base 2 "check_words" (spCheckWords K) []) {f : Addr} {fd : FuncData} (F : FunD K "hold_just" "View.hold_just" (defArgs s_View_hold_just) (defBody s_View_hold_just) (defScope s_View_hold_just) [] [] f fd) : FnOk P w K mg base CX0 3 f fd ["self", "words"] (spVwHold K C) := by
  refine F.ok sc_View_hold_just (fun vs H Q E h => ?_) (fun cdv A0 outer s H vs Q E hr h => ?_)
  · obtain ⟨A, d, b, hs, rfl, _⟩ := h
    rfl
  · refine ⟨_, PSs.nox (pss_cons (ps_expr (pe_cl c_check_words hr (by decide) rfl (pa_cons (pv 1) pa_nil))) (pss_one (ps_fld (pv 0) (pe_callB (cr_sortedX rfl) (by rfl) T.b_sorted (by decide +kernel) (pa_cons (pe_callTy (cr_setL rfl) (by rfl) T.b_set (by decide +kernel) (pa_cons (pv 1) pa_nil)) pa_nil)) rfl))), ?_⟩
    obtain ⟨A, d, b, hs, rfl, i, rb, okh, h60, k⟩ := h
    refine ⟨_, rfl, b, hs, rfl, rb, okh, fun H3 m3 => ?_⟩
    have i3 := i.same m3
    refine ⟨_, rfl, b, hs, rfl, (rb.same m3).sq, by unfold scanBound; omega, fun q c hq hc => ?_⟩
    refine ⟨q, _, c, rfl, upd_same, by omega, fun ys l2 asc mem len h2 => ?_⟩
    generalize SetX (cxOf CX0 P w K mg base ["self", "words"] "View.hold_just" (defScope s_View_hold_just) f cdv A0 outer s H E).nox.prog (cxOf CX0 P w K mg base ["self", "words"] "View.hold_just" (defScope s_View_hold_just) f cdv A0 outer s H E).nox.w q (fun x => decide (x ∈ hs)) c = so at h2 ⊢
    have n6 := same_new m3 hq (o := so)
    have f2 : H l2 = none := n6.free h2
    have n7 := same_new n6 h2 (o := .lst (ys.map V.str))
    have i7 := i.same n7
    have e7 : (L2.upd (L2.upd H3 q so) l2 (.lst (ys.map V.str))) l2 = some (.lst (ys.map V.str)) := upd_same
    generalize L2.upd (L2.upd H3 q so) l2 (.lst (ys.map V.str)) = H7 at n7 i7 e7 ⊢
    have z1 : A.p ≠ A.l1 := ne_of i7.ins i7.sights fun z => nomatch z
    have z2 : A.p ≠ l2 := ne_of i7.ins e7 fun z => nomatch z
    refine ⟨_, rfl, A.p, C, A.dx, _, rfl, i7.ins, vc.cl, vc.n2, Nat.lt_of_le_of_lt (Nat.le_trans (putF_len _ _ _) (Nat.succ_le_succ (putF_len _ _ _))) (by decide), ?_⟩
    refine k l2 ys _ f2 ((But.of n7).trans But.upd) ⟨?_, ?_, ?_, i.nd, i.ok, fun h hh => okh h (of_decide_eq_true ((mem h).1 hh)), asc, i.small.1, ?_⟩ fun x => (mem x).trans decide_eq_true_iff
    · show (L2.upd H7 A.p (.ins C A.dx (putF "hold_list" (.ref l2) (vwF A.l1 A.l2)))) A.p = some (.ins C A.dx (vwF A.l1 l2))
      rw [upd_same]
      rfl
    · rw [upd_ne z1.symm]; exact i7.sights
    · rw [upd_ne z2.symm]; exact e7
    · show ys.length ≤ 60
      omega
theorem ok_vw_copy (T : Bt mg) (vc : VwC K C) (k_View : Mr P w K mg base 3 "View" C (spView K C) []) {f : Addr} {fd : FuncData} (F : FunD K "copy" "View.copy" (defArgs s_View_copy) (defBody s_View_copy) (defScope s_View_copy) [] [] f fd) : FnOk P w K mg base CX0 5 f fd ["self"] (spVwCopy C) := by
  refine F.ok sc_View_copy (fun vs H Q E h => ?_) (fun cdv A0 outer s H vs Q E hr h => ?_)
  · obtain ⟨A, d, rfl, _⟩ := h
    rfl
  · refine ⟨_, PSs.nox (pss_one (ps_ret (pe_mr k_View hr (by decide) rfl (pa_cons (pe_fld (pv 0) rfl) (pa_cons (pe_fld (pv 0) rfl) pa_nil))))), ?_⟩
    obtain ⟨A, d, rfl, i, k⟩ := h
    refine ⟨_, rfl, A.p, C, A.dx, _, _, rfl, i.ins, vc.cl, vc.n1, vwF_sights _ _, _, rfl, A.p, C, A.dx, _, _, rfl, i.ins, vc.cl, vc.n2, vwF_holds _ _, fun x dx nx ndx nex => ?_⟩
    have mx : Same H (L2.upd (L2.upd H dx (.own x)) x (.ins C dx [])) := same_new (same_new (Same.refl _) ndx) (by rw [upd_ne nex.symm]; exact nx)
    refine ⟨x, dx, .ref A.l1, A.l2, d.sights, d.holds, rfl, upd_same, .inr ⟨_, rfl, mx _ _ i.sights⟩, i.nd, i.ok, i.small.1, .lst (mx _ _ i.holds), i.hk, i.small.2, fun B e H' eB edx fr bu iw es eh => ⟨rfl, ?_⟩⟩
    subst eB
    have ee : e = d := by
      obtain ⟨es', eh'⟩ := e
      obtain ⟨ds', dh'⟩ := d
      have h1 : es' = ds' := es
      have h2 : eh' = dh' := iw.asc.one i.asc eh
      rw [h1, h2]
    subst ee
    exact k B H' nx (fun l hl => mx.free (fr l hl)) (fun b o e => bu b o (mx b o e) (ne_of_none e nx)) iw
theorem ok_vw_eq2 (T : Bt mg) (vc : VwC K C) (g_View : mg "View" = some (.ref C)) {f : Addr} {fd : FuncData} (F : FunD K "__eq__" "View.__eq__" (defArgs s_View___eq__) (defBody s_View___eq__) (defScope s_View___eq__) [] [] f fd) : FnOk P w K mg base CX0 1 f fd ["self", "other"] (spVwEq K C) := by
  refine F.ok sc_View___eq__ (fun vs H Q E h => ?_) (fun cdv A0 outer s H vs Q E hr h => ?_)
  · rcases h with ⟨A, B, d, e, rfl, _⟩ | ⟨p, y, t, rfl, _⟩ <;> rfl
  · have hu64 := hu64_of hr
    have hu := hu_of hr
    refine ⟨_, PSs.nox (pss_one (ps_ret (pe_and (pe_callB call_isi (by rfl) T.b_isinstance (by decide +kernel) (pa_cons (pv 1) (pa_cons (pe_gref rfl g_View) pa_nil))) (pe_and (pe_cmpR (op_eq_dictA hr.units0) (pe_fld (pv 0) rfl) (pe_fld (pv 1) rfl) (nomark _)) (pe_one (pe_cmpR (op_eqD hu64) (pe_fld (pv 0) rfl) (pe_fld (pv 1) rfl) (nomark _))))))), ?_⟩
    rcases h with ⟨A, B, d, e, rfl, i, j, ty, pm, q⟩ | ⟨p, y, t, rfl, ty, kt, q⟩
    · refine ⟨_, rfl, _, _, _, _, true, rfl, .own _, ty, by simp [PySem.W.kitOne], true, rfl, ?_⟩
      obtain ⟨g1, g2⟩ := sg_deq pm i.nd
      refine ⟨_, rfl, A.p, C, A.dx, _, _, rfl, i.ins, vc.cl, vc.n1, vwF_sights _ _, _, rfl, B.p, C, B.dx, _, _, rfl, j.ins, vc.cl, vc.n1, vwF_sights _ _, A.l1, B.l1, _, _, rfl, rfl, i.sights, j.sights, g1, g2, _, rfl, ?_⟩
      refine ⟨_, rfl, A.p, C, A.dx, _, _, rfl, i.ins, vc.cl, vc.n2, vwF_holds _ _, _, rfl, B.p, C, B.dx, _, _, rfl, j.ins, vc.cl, vc.n2, vwF_holds _ _, _, _, .lst (SqL.of i.holds) (dp_strs _), .lst (SqL.of j.holds) (dp_strs _), strs_shaped fun h hh => nm_ok1 (i.hk h hh), strs_shaped fun h hh => nm_ok1 (j.hk h hh), ?_⟩
      rw [eqv_strsL]
      exact q
    · exact ⟨_, rfl, _, _, _, _, false, rfl, .own _, ty, kt, false, rfl, q⟩
end
end Lw

namespace Lw
open PySem PySem.Spec PyProof.Rows L2 Txs
open C8 (pe_gc)
/-! ### names of up to 12 letters: slots 0 _law_stream_here, 1 _law_count, 2 _law_names, 3 _law_k, 4 _law_name, 5 _law_turn -/
theorem inV_strs (n : PySem.Str) (ms : List PySem.Str) : inV (.str n) (ms.map V.str) = decide (n ∈ ms) := by
  unfold inV
  rw [List.any_map]
  by_cases h : n ∈ ms
  · rw [decide_eq_true h]
    exact List.any_eq_true.mpr ⟨n, h, by show (n == n) = true; simp⟩
  · rw [decide_eq_false h]
    refine List.any_eq_false.mpr fun m hm q => h ?_
    have q : (m == n) = true := q
    rw [← beq_iff_eq.mp q]; exact hm
theorem nd_add {α : Type} {l : List α} {x : α} (h : l.Nodup) (n : x ∉ l) : (l ++ [x]).Nodup :=
  List.nodup_append.mpr ⟨h, by simp, fun a ha b hb e => n (by rw [← List.mem_singleton.mp hb, ← e]; exact ha)⟩
def spLong : Sp := fun vs H Q _ => ∃ (a : Addr) (n : Nat), vs = [.ref a, .int (n : Int)] ∧ Stm H a ∧ 0 < n ∧ n ≤ 20 ∧
  ∀ p (ws : List PySem.Str) H', H p = none → But a H H' → Stm H' a → H' p = some (.lst (ws.map V.str)) → 0 < ws.length → ws.length ≤ n → ws.Nodup → (∀ w ∈ ws, Nm w) → Q (.ref p) H'
section
variable {P : Program} {w : World} {K : PySem.W.Frag} {mg : PySem.Str → Option Value} {base : Heap}
theorem ok_long (T : Bt mg) (c_law_draw : Cl P w K mg base 1 "_law_draw" spDraw []) {f : Addr} {fd : FuncData} (F : FunD K "_law_long_names" "_law_long_names" (defArgs s_law_long_names) (defBody s_law_long_names) (defScope s_law_long_names) [] [] f fd) : FnOk P w K mg base CX0 2 f fd ["_law_stream_here", "_law_count"] spLong := by
  refine F.ok sc_law_long_names (fun vs H Q E h => ?_) (fun cdv A outer s H vs Q E hr h => ?_)
  · obtain ⟨a, n, rfl, _⟩ := h
    rfl
  · obtain ⟨a, n, rfl, hS, n0, n12, k⟩ := h
    have hu := hu_of hr
    refine ⟨_, PSs.nox (pss_cons (ps_set (i := 2) sc_law_long_names.nd rfl (Or.inl rfl) (pe_lst pa_nil)) (pss_cons (ps_for PassesOwn.never rfl (pi_range1 rfl T.b_range (pa_cons (pv 1) pa_nil)) (pg_name (i := 3) sc_law_long_names.nd rfl (Or.inl rfl)) (pss_cons (ps_set (i := 4) sc_law_long_names.nd rfl (Or.inl rfl) pe_str) (pss_cons (ps_for PassesOwn.never rfl (pi_range1 rfl T.b_range (pa_cons (pe_op op_add pe_int (pe_cl c_law_draw hr (by decide) rfl (pa_cons (pv 0) (pa_cons pe_int pa_nil)))) pa_nil)) (pg_name (i := 5) sc_law_long_names.nd rfl (Or.inl rfl)) (pss_one (ps_set (i := 4) sc_law_long_names.nd rfl (Or.inl rfl) (pe_op op_add_str (pv 4) (pe_ix ix_str pe_str (pe_cl c_law_draw hr (by decide) rfl (pa_cons (pv 0) (pa_cons pe_int pa_nil))) (fun _ _ => rfl)))))) (pss_one (ps_if (pt_cmpR op_notIn_seq (pv 4) (pv 2) (by rfl)) (pss_one (ps_expr (pe_bm PySem.F.plainAttrs_list PySem.F.slot_list_append PySem.F.type_list_append mt_append (pv 2) (pa_cons (pv 4) pa_nil)))) pss_nil))))) (pss_one (ps_ret (pv 2))))), ?_⟩
    refine ⟨Nat.zero_le _, fun p hp => ?_⟩
    have npa : a ≠ p := by
      obtain ⟨x, y, z, e⟩ := hS
      exact ne_of_none e hp
    refine ⟨_, rfl, (n : Int), rfl, by omega, by omega, for_range (n := n) (fun i σ H' => ∃ (ws : List PySem.Str) (v1 v2 v3 : Option V), σ = [some (.ref a), some (.int (n : Int)), some (.ref p), v1, v2, v3] ∧ But a H H' ∧ Stm H' a ∧ H' p = some (.lst (ws.map V.str)) ∧ ws.length ≤ i ∧ (0 < i → 0 < ws.length) ∧ ws.Nodup ∧ ∀ w ∈ ws, Nm w) ?_ ?_ ?_⟩
    · exact ⟨[], _, _, _, rfl, But.of (same_new (Same.refl H) hp), hS.new hp, upd_same, Nat.le_refl _, fun q => absurd q (by omega), List.nodup_nil, fun _ q => nomatch q⟩
    · rintro i σ H1 hi ⟨ws, v1, v2, v3, rfl, b1, s1, l1, len1, pos1, nd1, all1⟩
      -- the letters
      refine ⟨_, rfl, a, 12, rfl, s1, by decide, by decide, fun r H2 r0 r3 b2 s2 => ⟨_, _, rfl, rfl, _, rfl, by omega, by omega, ?_⟩⟩
      have l2 : H2 p = some (.lst (ws.map V.str)) := b2 _ _ l1 npa.symm
      refine for_range (n := (1 + r).toNat) (fun j σ H' => ∃ (x : PySem.Str) (v3 : Option V), σ = [some (.ref a), some (.int (n : Int)), some (.ref p), some (.int (0 + (i : Int))), some (.str x), v3] ∧ But a H H' ∧ Stm H' a ∧ H' p = some (.lst (ws.map V.str)) ∧ x.length = j ∧ ∀ c ∈ x.cps.toList, 97 ≤ c ∧ c ≤ 122) ?_ ?_ ?_
      · exact ⟨_, _, rfl, b1.trans b2, s2, l2, rfl, fun c q => nomatch q⟩
      · rintro j σ H3 hj ⟨x, v3, rfl, b3, s3, l3, xl, xa⟩
        refine ⟨_, rfl, _, rfl, a, 26, rfl, s3, by decide, by decide, fun q H4 q0 q26 b4 s4 => ?_⟩
        obtain ⟨m, rfl⟩ : ∃ m : Nat, q = (m : Int) := ⟨q.toNat, by omega⟩
        refine ⟨abc, _, 97 + m, rfl, rfl, by decide, atI_nat (abc_at (by omega)), _, _, rfl, rfl, ?_, ?_⟩
        · rw [xl]
          exact Nat.le_trans (by show j + 1 ≤ 100; omega) (by decide)
        · obtain ⟨g1, g2⟩ := nm_grow (c := 97 + m) ⟨xl, xa⟩ (by omega)
          exact ⟨_, _, rfl, b3.trans b4, s4, b4 _ _ l3 npa.symm, g1, g2⟩
      · rintro σ H3 ⟨x, v3, rfl, b3, s3, l3, xl, xa⟩
        have nx : Nm x := ⟨by omega, by omega, xa⟩
        refine ⟨_, rfl, _, rfl, p, _, rfl, .inl (SqL.of l3), rfl, all_flat_strs ws, _, rfl, ?_⟩
        rw [inV_strs]
        by_cases m : x ∈ ws
        · rw [decide_eq_true m]
          exact iteF ⟨ws, _, _, _, rfl, b3, s3, l3, by omega, fun _ => List.length_pos_of_mem m, nd1, all1⟩
        · rw [decide_eq_false m]
          refine iteT ⟨_, rfl, .inl ⟨rfl, _, SqL.of l3⟩, _, rfl, p, _, _, rfl, rfl, l3, ?_, ?_⟩
          · rw [List.length_map]
            exact small1000 (by omega)
          · refine ⟨ws ++ [x], _, _, _, rfl, b3.put hp, s3.put npa.symm, ?_, ?_, fun _ => by simp, nd_add nd1 m, ?_⟩
            · rw [List.map_append]; exact upd_same
            · rw [List.length_append]
              show ws.length + 1 ≤ i + 1
              omega
            · intro y hx
              rcases List.mem_append.mp hx with q | q
              · exact all1 y q
              · rw [List.mem_singleton.mp q]; exact nx
    · rintro σ H1 ⟨ws, v1, v2, v3, rfl, b1, s1, l1, len1, pos1, nd1, all1⟩
      exact ⟨_, rfl, k p ws H1 hp b1 s1 l1 (pos1 n0) len1 nd1 all1⟩
theorem cl_long (T : Bt mg) (c_law_draw : Cl P w K mg base 1 "_law_draw" spDraw []) (a : At K mg "_law_long_names" s_law_long_names) : Cl P w K mg base 2 "_law_long_names" spLong [] := a.cal (ps := ["_law_stream_here", "_law_count"]) (fun _ _ F => ok_long T c_law_draw F) (fun _ _ _ _ _ _ us hl => match us, hl with | [_, _], _ => rfl)
end
end Lw

namespace Lw
open PySem PySem.Spec PyProof.Rows L2 Txs
open C8 (pe_gc)
/-! ### the law's questions about views -/
def spRight5 (C : Addr) : Sp := fun vs H Q _ => ∃ (A : VwAt) (d : Vw) (t u : Addr) (es : List (PySem.Str × PySem.Str)) (hs : List PySem.Str), vs = [.ref A.p, .ref t, .ref u] ∧ IsVw C H A d ∧ d.sights.length < 64 ∧ H t = some (.dK (sgV es)) ∧ d.sights.Perm es ∧
  H u = some (.lst (hs.map V.str)) ∧ (∀ x, x ∈ d.holds ↔ x ∈ hs) ∧ hs.length ≤ 60 ∧ ∀ H', Same H H' → Q (.bl true) H'
def spAsked5 (C : Addr) : Sp := fun vs H Q _ => ∃ (A : VwAt) (d : Vw) (a t : Addr) (ws : List PySem.Str) (es : List (PySem.Str × PySem.Str)), vs = [.ref A.p, .ref a, .ref t] ∧ IsVw C H A d ∧ H a = some (.lst (ws.map V.str)) ∧ (∀ x ∈ ws, Nm x) ∧ H t = some (.dK (sgV es)) ∧ d.sights.Perm es ∧
  ∀ H', Same H H' → Q (.bl true) H'
theorem strs_at {ws : List PySem.Str} {i : Nat} {x : V} (h : (ws.map V.str)[i]? = some x) : ∃ z, ws[i]? = some z ∧ x = V.str z := by
  rw [List.getElem?_map] at h
  cases z : ws[i]? with
  | none => rw [z] at h; cases h
  | some q => rw [z] at h; exact ⟨q, rfl, (Option.some.inj h).symm⟩
theorem sg_list (es : List (PySem.Str × PySem.Str)) : (sgV es).map (fun kv => kV kv.1) = (es.map (·.1)).map V.str := by
  unfold sgV
  rw [List.map_map, List.map_map]
  rfl
section
variable {P : Program} {w : World} {K : PySem.W.Frag} {mg : PySem.Str → Option Value} {base : Heap} {C cd : Addr}
theorem ok_right5 (T : Bt mg) (c_law_is_integer : Cl P w K mg base 1 "_law_is_integer" (spIsInt K) []) (p_View_words : Pr P w K mg base 1 C "words" (spVwWords C)) (p_View_sights : Pr P w K mg base 1 C "sights" (spVwSights C)) (p_View_holds : Pr P w K mg base 1 C "holds" (spVwHolds C))
    (y_View_len : Ow P w K mg base 1 C "__len__" (spVwLen C)) {f : Addr} {fd : FuncData} (F : FunD K "_law_right" "_law_right" (defArgs s_law_right) (defBody s_law_right) (defScope s_law_right) [] [] f fd) : FnOk P w K mg base CX0 3 f fd ["_law_view", "_law_table", "_law_holds"] (spRight5 C) := by
  refine F.ok sc_law_right (fun vs H Q E h => ?_) (fun cdv A0 outer s0 H vs Q E hr h => ?_)
  · obtain ⟨A, d, t, u, es, hs, rfl, _⟩ := h
    rfl
  · obtain ⟨A, d, t, u, es, hs, rfl, i, lt, ht, pm, hh, mem, h60, k⟩ := h
    have hu64 := hu64_of hr
    refine ⟨_, PSs.nox (pss_cons (ps_if (PW.pt (pw_or (pt_not (pt_val (pe_callB call_isi (by rfl) T.b_isinstance (by decide +kernel) (pa_cons (pe_pr p_View_words hr (by decide) (pv 0) rfl) (pa_cons (pe_bltn (v := .ty "list") (by rfl) T.b_list (by decide +kernel) rfl) pa_nil))))) (pw_or1 (pt_cmpR (op_neD hu64) (pe_pr p_View_words hr (by decide) (pv 0) rfl) (pe_callB cr_sortedS (by rfl) T.b_sorted (by decide +kernel) (pa_cons (pe_callTy (call_listD rfl) (by rfl) T.b_list (by decide +kernel) (pa_cons (pv 1) pa_nil)) pa_nil)) (nomark _))))) (pss_one (ps_ret pe_bl)) pss_nil) (pss_cons (ps_if (PW.pt (pw_or (pt_not (pt_val (pe_callB call_isi (by rfl) T.b_isinstance (by decide +kernel) (pa_cons (pe_pr p_View_sights hr (by decide) (pv 0) rfl) (pa_cons (pe_bltn (v := .ty "dict") (by rfl) T.b_dict (by decide +kernel) rfl) pa_nil))))) (pw_or1 (pt_cmpR (op_ne_dictA hr.units0) (pe_pr p_View_sights hr (by decide) (pv 0) rfl) (pv 1) (nomark _))))) (pss_one (ps_ret pe_bl)) pss_nil) (pss_cons (ps_if (PW.pt (pw_or (pt_not (pt_val (pe_callB call_isi (by rfl) T.b_isinstance (by decide +kernel) (pa_cons (pe_pr p_View_holds hr (by decide) (pv 0) rfl) (pa_cons (pe_bltn (v := .ty "list") (by rfl) T.b_list (by decide +kernel) rfl) pa_nil))))) (pw_or1 (pt_cmpR (op_neD hu64) (pe_pr p_View_holds hr (by decide) (pv 0) rfl) (pe_callB (cr_sortedX rfl) (by rfl) T.b_sorted (by decide +kernel) (pa_cons (pe_callTy (cr_setL rfl) (by rfl) T.b_set (by decide +kernel) (pa_cons (pv 2) pa_nil)) pa_nil)) (nomark _))))) (pss_one (ps_ret pe_bl)) pss_nil) (pss_one (ps_ret (pe_and (pe_cl c_law_is_integer hr (by decide) rfl (pa_cons (pe_callB (call_wl y_View_len hr (by decide)) (by rfl) T.b_len PySem.boot_len (pa_cons (pv 0) pa_nil)) pa_nil)) (pe_one (pe_cmpR op_eq (pe_callB (call_wl y_View_len hr (by decide)) (by rfl) T.b_len PySem.boot_len (pa_cons (pv 0) pa_nil)) (pe_callB call_lenD (by rfl) T.b_len PySem.boot_len (pa_cons (pv 1) pa_nil)) (nomark _))))))))), ?_⟩
    have lte : es.length < 64 := by rw [← pm.length_eq]; exact lt
    have nde : (es.map (·.1)).Nodup := (pm.map _).nodup_iff.1 i.nd
    -- the words
    refine ⟨_, rfl, A.p, A.dx, _, rfl, i.ins, A, d, rfl, i, lt, fun ys1 q1 as1 mem1 h1 => ?_⟩
    have m1 := same_new (Same.refl H) h1 (o := .lst (ys1.map V.str))
    have e1 : (L2.upd H q1 (.lst (ys1.map V.str))) q1 = some (.lst (ys1.map V.str)) := upd_same
    generalize L2.upd H q1 (.lst (ys1.map V.str)) = H1 at m1 e1 ⊢
    refine ⟨_, _, _, _, true, rfl, .ty _, .base (.lst e1), kit_ty (by decide +kernel), true, rfl, iteF ?_⟩
    have i1 := i.same m1
    refine ⟨_, rfl, A.p, A.dx, _, rfl, i1.ins, A, d, rfl, i1, lt, fun ys2 q2 as2 mem2 h2 => ?_⟩
    have m2 := same_new m1 h2 (o := .lst (ys2.map V.str))
    have e2 : (L2.upd H1 q2 (.lst (ys2.map V.str))) q2 = some (.lst (ys2.map V.str)) := upd_same
    generalize L2.upd H1 q2 (.lst (ys2.map V.str)) = H2 at m2 e2 ⊢
    refine ⟨_, rfl, t, sgV es, rfl, .inl (m2 _ _ ht), fun q3 h3 => ?_⟩
    rw [sg_list]
    have m3 := same_new m2 h3 (o := .lst ((es.map (·.1)).map V.str))
    have e3 : (L2.upd H2 q3 (.lst ((es.map (·.1)).map V.str))) q3 = some (.lst ((es.map (·.1)).map V.str)) := upd_same
    have e32 : (L2.upd H2 q3 (.lst ((es.map (·.1)).map V.str))) q2 = some (.lst (ys2.map V.str)) := by rw [upd_ne (ne_of_none e2 h3)]; exact e2
    generalize L2.upd H2 q3 (.lst ((es.map (·.1)).map V.str)) = H3 at m3 e3 e32 ⊢
    refine ⟨q3, es.map (·.1), rfl, SqL.of e3, by rw [List.length_map]; exact lte, fun zs q4 pz sz h4 => ?_⟩
    have ez : zs = ys2 := (asc_of pz sz nde).one as2 fun x => pz.mem_iff.trans (((pm.map _).mem_iff).symm.trans (mem2 x).symm)
    rw [ez]
    have sy : ∀ y ∈ ys2, PyData.strOk y = true := fun y hy => by
      obtain ⟨e, he, rfl⟩ := List.mem_map.mp ((mem2 y).1 hy)
      exact nm_ok1 (i.ok e he).1
    have m4 := same_new m3 h4 (o := .lst (ys2.map V.str))
    have e4 : (L2.upd H3 q4 (.lst (ys2.map V.str))) q4 = some (.lst (ys2.map V.str)) := upd_same
    have e42 : (L2.upd H3 q4 (.lst (ys2.map V.str))) q2 = some (.lst (ys2.map V.str)) := by rw [upd_ne (ne_of_none e32 h4)]; exact e32
    generalize L2.upd H3 q4 (.lst (ys2.map V.str)) = H4 at m4 e4 e42 ⊢
    refine ⟨_, _, .lst (SqL.of e42) (dp_strs _), .lst (SqL.of e4) (dp_strs _), strs_shaped sy, strs_shaped sy, _, rfl, ?_⟩
    rw [eqv_same (strs_shaped sy)]
    refine iteF ?_
    -- the sights
    have i4 := i.same m4
    refine ⟨_, rfl, A.p, A.dx, _, rfl, i4.ins, A, d, rfl, i4, fun q5 h5 => ?_⟩
    have m5 := same_new m4 h5 (o := .dK (sgV d.sights))
    have e5 : (L2.upd H4 q5 (.dK (sgV d.sights))) q5 = some (.dK (sgV d.sights)) := upd_same
    generalize L2.upd H4 q5 (.dK (sgV d.sights)) = H5 at m5 e5 ⊢
    refine ⟨_, _, _, _, true, rfl, .ty _, .base (.dK e5), kit_ty (by decide +kernel), true, rfl, iteF ?_⟩
    have i5 := i.same m5
    refine ⟨_, rfl, A.p, A.dx, _, rfl, i5.ins, A, d, rfl, i5, fun q6 h6 => ?_⟩
    have m6 := same_new m5 h6 (o := .dK (sgV d.sights))
    have e6 : (L2.upd H5 q6 (.dK (sgV d.sights))) q6 = some (.dK (sgV d.sights)) := upd_same
    generalize L2.upd H5 q6 (.dK (sgV d.sights)) = H6 at m6 e6 ⊢
    obtain ⟨g1, g2⟩ := sg_deq pm i.nd
    refine ⟨_, rfl, q6, t, _, _, rfl, rfl, e6, m6 _ _ ht, g1, g2, _, rfl, iteF ?_⟩
    -- the words to hold
    have i6 := i.same m6
    refine ⟨_, rfl, A.p, A.dx, _, rfl, i6.ins, A, d, rfl, i6, fun q7 h7 => ?_⟩
    have m7 := same_new m6 h7 (o := .lst (d.holds.map V.str))
    have e7 : (L2.upd H6 q7 (.lst (d.holds.map V.str))) q7 = some (.lst (d.holds.map V.str)) := upd_same
    generalize L2.upd H6 q7 (.lst (d.holds.map V.str)) = H7 at m7 e7 ⊢
    refine ⟨_, _, _, _, true, rfl, .ty _, .base (.lst e7), kit_ty (by decide +kernel), true, rfl, iteF ?_⟩
    have i7 := i.same m7
    refine ⟨_, rfl, A.p, A.dx, _, rfl, i7.ins, A, d, rfl, i7, fun q8 h8 => ?_⟩
    have m8 := same_new m7 h8 (o := .lst (d.holds.map V.str))
    have e8 : (L2.upd H7 q8 (.lst (d.holds.map V.str))) q8 = some (.lst (d.holds.map V.str)) := upd_same
    generalize L2.upd H7 q8 (.lst (d.holds.map V.str)) = H8 at m8 e8 ⊢
    refine ⟨_, rfl, u, hs, rfl, .inl (SqL.of (m8 _ _ hh)), by unfold scanBound; omega, fun q9 c hq9 hc => ?_⟩
    refine ⟨q9, _, c, rfl, upd_same, by omega, fun ys q10 asc mem' len h10 => ?_⟩
    generalize SetX (cxOf CX0 P w K mg base ["_law_view", "_law_table", "_law_holds"] "_law_right" (defScope s_law_right) f cdv A0 outer s0 H E).nox.prog (cxOf CX0 P w K mg base ["_law_view", "_law_table", "_law_holds"] "_law_right" (defScope s_law_right) f cdv A0 outer s0 H E).nox.w q9 (fun x => decide (x ∈ hs)) c = so at h10 ⊢
    have ez2 : ys = d.holds := asc.one i.asc fun x => ((mem' x).trans decide_eq_true_iff).trans (mem x).symm
    rw [ez2] at *
    have m9 := same_new m8 hq9 (o := so)
    have m10 := same_new m9 h10 (o := .lst (d.holds.map V.str))
    have e10 : (L2.upd (L2.upd H8 q9 so) q10 (.lst (d.holds.map V.str))) q10 = some (.lst (d.holds.map V.str)) := upd_same
    have e108 : (L2.upd (L2.upd H8 q9 so) q10 (.lst (d.holds.map V.str))) q8 = some (.lst (d.holds.map V.str)) := by
      have z : (L2.upd H8 q9 so) q8 = some (.lst (d.holds.map V.str)) := by rw [upd_ne (ne_of_none e8 hq9)]; exact e8
      rw [upd_ne (ne_of_none z h10)]; exact z
    generalize L2.upd (L2.upd H8 q9 so) q10 (.lst (d.holds.map V.str)) = H10 at m10 e10 e108 ⊢
    have sh : ∀ y ∈ d.holds, PyData.strOk y = true := fun y hy => nm_ok1 (i.hk y hy)
    refine ⟨_, _, .lst (SqL.of e108) (dp_strs _), .lst (SqL.of e10) (dp_strs _), strs_shaped sh, strs_shaped sh, _, rfl, ?_⟩
    rw [eqv_same (strs_shaped sh)]
    refine iteF ?_
    -- how many
    have i10 := i.same m10
    refine ⟨_, rfl, A.p, A.dx, _, rfl, i10.ins, A, d, rfl, i10, _, rfl, by omega, by omega, _, _, true, false, rfl, .base (.int _), kit_ty (by decide +kernel), fun _ => kit_ty (by decide +kernel), true, rfl, ?_⟩
    refine ⟨_, rfl, A.p, A.dx, _, rfl, i10.ins, A, d, rfl, i10, _, rfl, by omega, by omega, _, rfl, t, _, rfl, m10 _ _ ht, rfl, ?_⟩
    rw [decide_eq_true (by rw [sg_len, pm.length_eq])]
    exact k _ m10
theorem cl_right5 (T : Bt mg) (c_law_is_integer : Cl P w K mg base 1 "_law_is_integer" (spIsInt K) []) (p_View_words : Pr P w K mg base 1 C "words" (spVwWords C)) (p_View_sights : Pr P w K mg base 1 C "sights" (spVwSights C)) (p_View_holds : Pr P w K mg base 1 C "holds" (spVwHolds C))
    (y_View_len : Ow P w K mg base 1 C "__len__" (spVwLen C)) (a : At K mg "_law_right" s_law_right) : Cl P w K mg base 3 "_law_right" (spRight5 C) [] := a.cal (ps := ["_law_view", "_law_table", "_law_holds"]) (fun _ _ F => ok_right5 T c_law_is_integer p_View_words p_View_sights p_View_holds y_View_len F) (fun _ _ _ _ _ _ us hl => match us, hl with | [_, _, _], _ => rfl)
theorem ok_asked5 (T : Bt mg) (c_law_flag : Cl P w K mg base 1 "_law_flag" spFlag []) (y_View_contains : Ow P w K mg base 2 C "__contains__" (spVwIn K C)) (y_View_getitem : Ow P w K mg base 2 C "__getitem__" (spVwItem C))
    {f : Addr} {fd : FuncData} (F : FunD K "_law_asked" "_law_asked" (defArgs s_law_asked) (defBody s_law_asked) (defScope s_law_asked) [] [] f fd) : FnOk P w K mg base CX0 4 f fd ["_law_view", "_law_names", "_law_table"] (spAsked5 C) := by
  refine F.ok sc_law_asked (fun vs H Q E h => ?_) (fun cdv A0 outer s0 H vs Q E hr h => ?_)
  · obtain ⟨A, d, a, t, ws, es, rfl, _⟩ := h
    rfl
  · obtain ⟨A, d, a, t, ws, es, rfl, i, ha, nm, ht, pm, k⟩ := h
    have hu := hu_of hr
    refine ⟨_, PSs.nox (pss_cons (ps_for PassesOwn.never rfl (pi_list (pv 1)) (pg_name (i := 3) sc_law_asked.nd rfl (Or.inl rfl)) (pss_cons (ps_if (pt_not (pt_val (pe_cl c_law_flag hr (by decide) rfl (pa_cons (pe_cmpR (op_wn y_View_contains hr (by decide)) (pv 3) (pv 0) (by rfl)) (pa_cons (pe_cmp (pc_din hu (pv 3) (pv 2))) pa_nil))))) (pss_one (ps_ret pe_bl)) pss_nil) (pss_cons (ps_if (PW.pt (pw_and (pt_cmp (pc_din hu (pv 3) (pv 2))) (pw_and1 (pt_cmpR op_ne (pe_wi y_View_getitem hr (by decide) (pv 0) (pv 3)) (pe_dget hu (pv 2) (pv 3) (fun _ _ => rfl)) (nomark _))))) (pss_one (ps_ret pe_bl)) pss_nil) (pss_one (ps_if (PW.pt (pw_and (pt_cmp (pc_dnotin hu (pv 3) (pv 2))) (pw_and1 (pt_cmpR op_notN (pe_wi y_View_getitem hr (by decide) (pv 0) (pv 3)) pe_non (nomark _))))) (pss_one (ps_ret pe_bl)) pss_nil))))) (pss_cons (ps_for PassesOwn.never rfl (pi_list (pe_lst (pa_cons pe_non (pa_cons pe_int (pa_cons pe_bl (pa_cons (pe_tup pa_nil) (pa_cons (pe_lst pa_nil) (pa_cons pe_dnewK (pa_cons pe_str (pa_cons pe_str (pa_cons (pe_op Itms.op_mulS pe_str pe_int) (pa_cons (pe_tup (pa_cons pe_str pa_nil)) pa_nil)))))))))))) (pg_name (i := 4) sc_law_asked.nd rfl (Or.inl rfl)) (pss_one (ps_if (pt_cmpR (op_wn y_View_contains hr (by decide)) (pv 4) (pv 0) (by rfl)) (pss_one (ps_ret pe_bl)) pss_nil))) (pss_one (ps_ret pe_bl)))), ?_⟩
    refine ⟨_, rfl, a, rfl, ⟨_, SqL.of ha⟩, for_list (K := K) (xs := ws.map V.str) (fun j σ H' => H' = H ∧ ∃ v3 v4 : Option V, σ = [some (.ref A.p), some (.ref a), some (.ref t), v3, v4]) ?_ ?_ ?_ ?_⟩
    · exact ⟨rfl, _, _, rfl⟩
    · rintro j σ' H' _ ⟨rfl, _⟩
      exact SqL.of ha
    · rintro j x σ' H' hx ⟨rfl, v3, v4, rfl⟩
      obtain ⟨z, hz, rfl⟩ := strs_at hx
      have nz := nm z (List.mem_of_getElem? hz)
      have e0 := sg_perm pm i.nd z
      refine ⟨_, rfl, _, rfl, A.p, A.dx, _, rfl, i.ins, A, d, _, rfl, i, .inl ⟨z, rfl, nm_size nz, _, rfl, _, rfl, _, rfl, t, _, rfl, DGet.k (k := .inr z) ht, ?_⟩⟩
      refine ⟨(valV (sgV es) (.inr z : Key)).isSome, ?_, true, rfl, iteF ?_⟩
      · rw [nmB_iff.2 nz, e0]
        rfl
      cases q : valV (sgV es) (.inr z : Key) with
      | some v =>
        obtain ⟨y, rfl, _⟩ := sg_some q
        refine ⟨_, rfl, _, rfl, t, _, rfl, DGet.k (k := .inr z) ht, _, rfl, ?_⟩
        rw [q]
        refine iteT ⟨_, rfl, _, rfl, A.p, A.dx, _, rfl, i.ins, A, d, z, rfl, i, nz, ?_⟩
        rw [e0, q]
        refine ⟨_, rfl, _, rfl, t, .str y, rfl, by have := DGet.k (k := .inr z) ht; rw [q] at this; exact this, rfl, _, rfl, iteNS rfl ?_⟩
        refine ⟨_, rfl, _, rfl, t, _, rfl, DGet.k (k := .inr z) ht, _, rfl, ?_⟩
        rw [q]
        exact iteF ⟨rfl, _, _, rfl⟩
      | none =>
        refine ⟨_, rfl, _, rfl, t, _, rfl, DGet.k (k := .inr z) ht, _, rfl, ?_⟩
        rw [q]
        refine iteF ⟨_, rfl, _, rfl, t, _, rfl, DGet.k (k := .inr z) ht, _, rfl, ?_⟩
        rw [q]
        refine iteT ⟨_, rfl, _, rfl, A.p, A.dx, _, rfl, i.ins, A, d, z, rfl, i, nz, ?_⟩
        rw [e0, q]
        exact ⟨rfl, _, rfl, iteF ⟨rfl, _, _, rfl⟩⟩
    · rintro σ' H' ⟨rfl, v3, v4, rfl⟩
      -- what is no name
      refine ⟨Nat.zero_le _, fun p1 h1 => ?_⟩
      have m1 := same_new (Same.refl H') h1 (o := .tup [])
      have e1 : (L2.upd H' p1 (.tup [])) p1 = some (.tup []) := upd_same
      generalize L2.upd H' p1 (.tup []) = H1 at m1 e1 ⊢
      refine ⟨Nat.zero_le _, fun p2 h2 => ?_⟩
      have m2 := same_new (Same.refl H1) h2 (o := .lst [])
      have e2 : (L2.upd H1 p2 (.lst [])) p2 = some (.lst []) := upd_same
      generalize L2.upd H1 p2 (.lst []) = H2 at m2 e2 ⊢
      intro p3 h3
      have m3 := same_new (Same.refl H2) h3 (o := .dK [])
      have e3 : (L2.upd H2 p3 (.dK [])) p3 = some (.dK []) := upd_same
      generalize L2.upd H2 p3 (.dK []) = H3 at m3 e3 ⊢
      refine ⟨_, _, rfl, rfl, ⟨by decide, fun _ _ => by decide, fun _ _ => by decide +kernel⟩, (by show 1 ≤ sizeLine; decide), fun p4 h4 => ?_⟩
      have m4 := same_new (Same.refl H3) h4 (o := .tup [.str "a"])
      have e4 : (L2.upd H3 p4 (.tup [.str "a"])) p4 = some (.tup [.str "a"]) := upd_same
      generalize L2.upd H3 p4 (.tup [.str "a"]) = H4 at m4 e4 ⊢
      refine ⟨(by show 10 ≤ sizeLine; decide), fun p5 h5 => ?_⟩
      have m5 := same_new (Same.refl H4) h5 (o := .lst [.non, .int 3, .bl true, .ref p1, .ref p2, .ref p3, .str "", .str "A", .str (Txt.mul "a" 13), .ref p4])
      have e5 : (L2.upd H4 p5 (.lst [.non, .int 3, .bl true, .ref p1, .ref p2, .ref p3, .str "", .str "A", .str (Txt.mul "a" 13), .ref p4])) p5 = some (.lst [.non, .int 3, .bl true, .ref p1, .ref p2, .ref p3, .str "", .str "A", .str (Txt.mul "a" 13), .ref p4]) := upd_same
      generalize L2.upd H4 p5 (.lst [.non, .int 3, .bl true, .ref p1, .ref p2, .ref p3, .str "", .str "A", .str (Txt.mul "a" 13), .ref p4]) = H5 at m5 e5 ⊢
      have mm := (((m1.trans m2).trans m3).trans m4).trans m5
      have i5 := i.same mm
      have e15 := (((m2.trans m3).trans m4).trans m5) _ _ e1
      have e25 := ((m3.trans m4).trans m5) _ _ e2
      have e35 := (m4.trans m5) _ _ e3
      have e45 := m5 _ _ e4
      refine ⟨p5, rfl, ⟨_, SqL.of e5⟩, for_list (K := K) (xs := [.non, .int 3, .bl true, .ref p1, .ref p2, .ref p3, .str "", .str "A", .str (Txt.mul "a" 13), .ref p4]) (fun j σ H' => H' = H5 ∧ ∃ v3 v4 : Option V, σ = [some (.ref A.p), some (.ref a), some (.ref t), v3, v4]) ?_ ?_ ?_ ?_⟩
      · exact ⟨rfl, _, _, rfl⟩
      · rintro j σ' H6 _ ⟨rfl, _⟩
        exact SqL.of e5
      · rintro j x σ' H6 hx ⟨rfl, v3, v4, rfl⟩
        have th : (∃ z, x = .str z ∧ z.length ≤ sizeLine ∧ nmB z = false) ∨ ∃ Ty, TyX K H6 x Ty ∧ PySem.W.kitOne K Ty (.type "str") = some false := by
          match j, hx with
          | 0, h => cases (Option.some.inj h); exact .inr ⟨_, .base .non, kit_ty (by decide +kernel)⟩
          | 1, h => cases (Option.some.inj h); exact .inr ⟨_, .base (.int _), kit_ty (by decide +kernel)⟩
          | 2, h => cases (Option.some.inj h); exact .inr ⟨_, .base (.bl _), kit_ty (by decide +kernel)⟩
          | 3, h => cases (Option.some.inj h); exact .inr ⟨_, .base (.tup e15), kit_ty (by decide +kernel)⟩
          | 4, h => cases (Option.some.inj h); exact .inr ⟨_, .base (.lst e25), kit_ty (by decide +kernel)⟩
          | 5, h => cases (Option.some.inj h); exact .inr ⟨_, .base (.dK e35), kit_ty (by decide +kernel)⟩
          | 6, h => cases (Option.some.inj h); exact .inl ⟨_, rfl, by decide +kernel, by decide +kernel⟩
          | 7, h => cases (Option.some.inj h); exact .inl ⟨_, rfl, by decide +kernel, by decide +kernel⟩
          | 8, h => cases (Option.some.inj h); exact .inl ⟨_, rfl, by decide +kernel, by decide +kernel⟩
          | 9, h => cases (Option.some.inj h); exact .inr ⟨_, .base (.tup e45), kit_ty (by decide +kernel)⟩
          | n + 10, h => simp at h
        rcases th with ⟨z, rfl, lz, nz⟩ | ⟨Ty, ty, kt⟩
        · refine ⟨_, rfl, _, rfl, A.p, A.dx, _, rfl, i5.ins, A, d, _, rfl, i5, .inl ⟨z, rfl, lz, _, rfl, _, rfl, ?_⟩⟩
          rw [nz]
          exact iteF ⟨rfl, _, _, rfl⟩
        · exact ⟨_, rfl, _, rfl, A.p, A.dx, _, rfl, i5.ins, A, d, _, rfl, i5, .inr ⟨Ty, ty, kt, _, rfl, _, rfl, iteF ⟨rfl, _, _, rfl⟩⟩⟩
      · rintro σ' H6 ⟨rfl, v3, v4, rfl⟩
        exact k _ mm
theorem cl_asked5 (T : Bt mg) (c_law_flag : Cl P w K mg base 1 "_law_flag" spFlag []) (y_View_contains : Ow P w K mg base 2 C "__contains__" (spVwIn K C)) (y_View_getitem : Ow P w K mg base 2 C "__getitem__" (spVwItem C)) (a : At K mg "_law_asked" s_law_asked) : Cl P w K mg base 4 "_law_asked" (spAsked5 C) [] := a.cal (ps := ["_law_view", "_law_names", "_law_table"]) (fun _ _ F => ok_asked5 T c_law_flag y_View_contains y_View_getitem F) (fun _ _ _ _ _ _ us hl => match us, hl with | [_, _, _], _ => rfl)
end
end Lw

namespace Lw
open PySem PySem.Spec PyProof.Rows L2 Txs
open C8 (pe_gc)
/-! ### views told things of which are changed; bare views -/
def spSpoiled5 (C : Addr) : Sp := fun vs H Q _ => ∃ (av a t u : Addr) (Bs : List (VwAt × Vw)) (ws : List PySem.Str) (es : List (PySem.Str × PySem.Str)) (hs : List PySem.Str), vs = [.ref av, .ref a, .ref t, .ref u] ∧ H av = some (.lst (Bs.map fun B => V.ref B.1.p)) ∧ Bs.length ≤ 10 ∧
  (∀ B ∈ Bs, IsVw C H B.1 B.2 ∧ B.2.sights.length < 64 ∧ B.2.sights.Perm es ∧ ∀ x, x ∈ B.2.holds ↔ x ∈ hs) ∧ H a = some (.lst (ws.map V.str)) ∧ (∀ x ∈ ws, Nm x) ∧ H t = some (.dK (sgV es)) ∧ H u = some (.lst (hs.map V.str)) ∧ hs.length ≤ 60 ∧ ∀ H', Same H H' → Q (.bl true) H'
def spBare5 (C : Addr) : Sp := fun vs H Q _ => ∃ (A : VwAt) (d : Vw) (t u : Addr) (es : List (PySem.Str × PySem.Str)) (hs : List PySem.Str), vs = [.ref t, .ref u, .ref A.p] ∧ IsVw C H A d ∧ H t = some (.dK (sgV es)) ∧ es.Perm d.sights ∧ (es.map (·.1)).Nodup ∧ (∀ e ∈ es, Nm e.1 ∧ Nm e.2) ∧ es.length ≤ 100 ∧
  H u = some (.lst (hs.map V.str)) ∧ (∀ x, x ∈ d.holds ↔ x ∈ hs) ∧ (∀ x ∈ hs, Nm x) ∧ ∀ H', Same H H' → Q (.bl true) H'
theorem made5 {H : Hp} {x dx : Addr} {o1 o2 : HO} (nx : H x = none) (ndx : H dx = none) (nex : dx ≠ x) : Same H (L2.upd (L2.upd H dx o1) x o2) :=
  same_new (same_new (Same.refl _) ndx) (by rw [upd_ne nex.symm]; exact nx)
section
variable {P : Program} {w : World} {K : PySem.W.Frag} {mg : PySem.Str → Option Value} {base : Heap} {C cd : Addr}
theorem ok_spoiled5 (T : Bt mg) (c_law_right : Cl P w K mg base 3 "_law_right" (spRight5 C) []) (c_law_asked : Cl P w K mg base 4 "_law_asked" (spAsked5 C) []) (p_View_words : Pr P w K mg base 1 C "words" (spVwWords C)) (p_View_sights : Pr P w K mg base 1 C "sights" (spVwSights C)) (p_View_holds : Pr P w K mg base 1 C "holds" (spVwHolds C))
    {f : Addr} {fd : FuncData} (F : FunD K "_law_spoiled" "_law_spoiled" (defArgs s_law_spoiled) (defBody s_law_spoiled) (defScope s_law_spoiled) [] [] f fd) : FnOk P w K mg base CX0 5 f fd ["_law_views", "_law_names", "_law_table", "_law_holds"] (spSpoiled5 C) := by
  refine F.ok sc_law_spoiled (fun vs H Q E h => ?_) (fun cdv A0 outer s0 H vs Q E hr h => ?_)
  · obtain ⟨av, a, t, u, Bs, ws, es, hs, rfl, _⟩ := h
    rfl
  · obtain ⟨av, a, t, u, Bs, ws, es, hs, rfl, hav, n10, all, ha, nm, ht, hh, h60, k⟩ := h
    have hu := hu_of hr
    refine ⟨_, PSs.nox (pss_cons (ps_for PassesOwn.never rfl (pi_list (pv 0)) (pg_name (i := 4) sc_law_spoiled.nd rfl (Or.inl rfl)) (pss_cons (ps_if (PW.pt (pw_or (pt_not (pt_val (pe_cl c_law_right hr (by decide) rfl (pa_cons (pv 4) (pa_cons (pv 2) (pa_cons (pv 3) pa_nil)))))) (pw_or1 (pt_not (pt_val (pe_cl c_law_asked hr (by decide) rfl (pa_cons (pv 4) (pa_cons (pv 1) (pa_cons (pv 2) pa_nil))))))))) (pss_one (ps_ret pe_bl)) pss_nil) (pss_cons (ps_set (i := 5) sc_law_spoiled.nd rfl (Or.inl rfl) (pe_pr p_View_words hr (by decide) (pv 4) rfl)) (pss_cons (ps_expr (pe_bm PySem.F.plainAttrs_list PySem.F.slot_list_append PySem.F.type_list_append mt_append (pv 5) (pa_cons pe_str pa_nil))) (pss_cons (ps_set (i := 5) sc_law_spoiled.nd rfl (Or.inl rfl) (pe_pr p_View_sights hr (by decide) (pv 4) rfl)) (pss_cons (ps_dput hu (pv 5) pe_str pe_str rfl) (pss_cons (ps_set (i := 5) sc_law_spoiled.nd rfl (Or.inl rfl) (pe_pr p_View_holds hr (by decide) (pv 4) rfl)) (pss_one (ps_expr (pe_bm PySem.F.plainAttrs_list PySem.F.slot_list_append PySem.F.type_list_append mt_append (pv 5) (pa_cons pe_str pa_nil))))))))))) (pss_one (ps_ret (pe_callB (cr_all rfl) (by rfl) T.b_all (by decide +kernel) (pa_cons (pe_lc (own := [("_law_view", 4)]) (tt := tYes) rfl sc_law_spoiled.nd (pi_list (pv 0)) (blkOk_by (N := N_law_spoiled) (sc := defScope s_law_spoiled) (by decide +kernel)) (fun _ _ _ _ _ => (pg_name (i := 4) sc_law_spoiled.nd rfl (Or.inl rfl))) (fun _ _ _ _ _ => pts_nil) (fun _ _ _ _ _ => (pe_cl c_law_right hr (by decide) rfl (pa_cons (pv 4) (pa_cons (pv 2) (pa_cons (pv 3) pa_nil)))))) pa_nil))))), ?_⟩
    have at5 : ∀ {j : Nat} {x : V}, (Bs.map fun B => V.ref B.1.p)[j]? = some x → ∃ B, B ∈ Bs ∧ x = V.ref B.1.p ∧ j < Bs.length := fun {j x} hx => by
      rw [List.getElem?_map] at hx
      obtain ⟨B, hB, rfl⟩ := Option.map_eq_some_iff.mp hx
      exact ⟨B, List.mem_of_getElem? hB, rfl, (List.getElem?_eq_some_iff.mp hB).1⟩
    refine ⟨_, rfl, av, rfl, ⟨_, SqL.of hav⟩, for_list (K := K) (xs := Bs.map fun B => V.ref B.1.p) (fun j σ H' => Same H H' ∧ ∃ v4 v5 : Option V, σ = [some (.ref av), some (.ref a), some (.ref t), some (.ref u), v4, v5]) ?_ ?_ ?_ ?_⟩
    · exact ⟨Same.refl _, _, _, rfl⟩
    · rintro j σ' H' _ ⟨sm, _⟩
      exact SqL.of (sm _ _ hav)
    · rintro j x σ' H1 hx ⟨m1, v4, v5, rfl⟩
      obtain ⟨⟨A, d⟩, hB, rfl, _⟩ := at5 hx
      obtain ⟨i, lt, pm, mem⟩ := all _ hB
      have lt : d.sights.length < 64 := lt
      have i60 : d.holds.length ≤ 60 := i.small.2
      refine ⟨_, rfl, _, rfl, _, rfl, A, d, t, u, es, hs, rfl, i.same m1, lt, m1 _ _ ht, pm, m1 _ _ hh, mem, h60, fun H2 m2 => ⟨true, rfl, iteF ?_⟩⟩
      have m2 := m1.trans m2
      refine ⟨_, rfl, _, rfl, _, rfl, A, d, a, t, ws, es, rfl, i.same m2, m2 _ _ ha, nm, m2 _ _ ht, pm, fun H3 m3 => ⟨true, rfl, iteF ?_⟩⟩
      have m3 := m2.trans m3
      have i3 := i.same m3
      refine ⟨_, rfl, A.p, A.dx, _, rfl, i3.ins, A, d, rfl, i3, lt, fun ys q1 as1 mem1 h1 => ?_⟩
      have ylen : ys.length ≤ d.sights.length := by
        have := nodup_le as1.2 fun y hy => (mem1 y).1 hy
        rwa [List.length_map] at this
      refine ⟨_, rfl, .inl ⟨rfl, _, SqL.of upd_same⟩, q1, _, _, rfl, rfl, upd_same, by rw [List.length_map]; exact small1000 (by omega), ?_⟩
      have m4 : Same H (L2.upd (L2.upd H3 q1 (.lst (ys.map V.str))) q1 (.lst (ys.map V.str ++ [.str "late"]))) := same_put (same_new m3 h1) (m3.free h1)
      generalize L2.upd (L2.upd H3 q1 (.lst (ys.map V.str))) q1 (.lst (ys.map V.str ++ [.str "late"])) = H4 at m4 ⊢
      have i4 := i.same m4
      refine ⟨_, rfl, A.p, A.dx, _, rfl, i4.ins, A, d, rfl, i4, fun q2 h2 => ?_⟩
      refine ⟨_, rfl, q2, _, rfl, DPut.k (k := .inr "late") upd_same (small1000 (by rw [sg_len]; omega)), ?_⟩
      have m5 : Same H (L2.upd (L2.upd H4 q2 (.dK (sgV d.sights))) q2 (.dK (putK (sgV d.sights) (.inr "late") (.str "late")))) := same_put (same_new m4 h2) (m4.free h2)
      generalize L2.upd (L2.upd H4 q2 (.dK (sgV d.sights))) q2 (.dK (putK (sgV d.sights) (.inr "late") (.str "late"))) = H5 at m5 ⊢
      have i5 := i.same m5
      refine ⟨_, rfl, A.p, A.dx, _, rfl, i5.ins, A, d, rfl, i5, fun q3 h3 => ?_⟩
      refine ⟨_, rfl, .inl ⟨rfl, _, SqL.of upd_same⟩, q3, _, _, rfl, rfl, upd_same, by rw [List.length_map]; exact small1000 (by omega), ?_⟩
      exact ⟨same_put (same_new m5 h3) (m5.free h3), _, _, rfl⟩
    · rintro σ' H1 ⟨m1, v4, v5, rfl⟩
      refine ⟨_, rfl, av, rfl, ⟨_, SqL.of (m1 _ _ hav)⟩, fun D hD => lc_list (K := K) (xs := Bs.map fun B => V.ref B.1.p) (fun j H' => Same H1 H' ∧ H' D = some (.lst ((List.replicate j true).map V.bl))) ?_ ?_ ?_ ?_⟩
      · exact ⟨same_new (Same.refl _) hD, upd_same⟩
      · exact fun j H' _ ⟨sm, _⟩ => sm.seq (SqL.of (m1 _ _ hav))
      · rintro j x H2 hx ⟨sm, hl⟩
        obtain ⟨⟨A, d⟩, hB, rfl, jl⟩ := at5 hx
        obtain ⟨i, lt, pm, mem⟩ := all _ hB
        have m2 := m1.trans sm
        refine ⟨rfl, _, rfl, _, rfl, _, rfl, A, d, t, u, es, hs, rfl, i.same m2, lt, m2 _ _ ht, pm, m2 _ _ hh, mem, h60, fun H3 m3 => ?_⟩
        refine ⟨_, m3 _ _ hl, by rw [List.length_map, List.length_replicate]; exact small1000 (by omega), same_put (sm.trans m3) hD, ?_⟩
        rw [upd_same, List.replicate_succ', List.map_append]
        rfl
      · rintro H2 ⟨sm, hl⟩
        refine ⟨D, _, rfl, SqL.of hl, ?_⟩
        rw [bools_all]
        exact k H2 (m1.trans sm)
theorem cl_spoiled5 (T : Bt mg) (c_law_right : Cl P w K mg base 3 "_law_right" (spRight5 C) []) (c_law_asked : Cl P w K mg base 4 "_law_asked" (spAsked5 C) []) (p_View_words : Pr P w K mg base 1 C "words" (spVwWords C)) (p_View_sights : Pr P w K mg base 1 C "sights" (spVwSights C)) (p_View_holds : Pr P w K mg base 1 C "holds" (spVwHolds C))
    (a : At K mg "_law_spoiled" s_law_spoiled) : Cl P w K mg base 5 "_law_spoiled" (spSpoiled5 C) [] := a.cal (ps := ["_law_views", "_law_names", "_law_table", "_law_holds"]) (fun _ _ F => ok_spoiled5 T c_law_right c_law_asked p_View_words p_View_sights p_View_holds F) (fun _ _ _ _ _ _ us hl => match us, hl with | [_, _, _, _], _ => rfl)
theorem ok_bare5 (T : Bt mg) (vc : VwC K C) (bi : Bi K C) (c_law_flag : Cl P w K mg base 1 "_law_flag" spFlag []) (k_View : Mr P w K mg base 3 "View" C (spView K C) []) (k_View1 : Mr P w K mg base 3 "View" C (spView K C) [.ref cd]) (k_View0 : Mr P w K mg base 3 "View" C (spView K C) [.non, .ref cd]) (hcd : ∀ H : Hp, RowAt K H cd [])
    (o_View : Oq P w K mg base 1 C (spVwEq K C)) (y_View_len : Ow P w K mg base 1 C "__len__" (spVwLen C)) (p_View_holds : Pr P w K mg base 1 C "holds" (spVwHolds C))
    {f : Addr} {fd : FuncData} (F : FunD K "_law_bare" "_law_bare" (defArgs s_law_bare) (defBody s_law_bare) (defScope s_law_bare) [] [] f fd) : FnOk P w K mg base CX0 5 f fd ["_law_table", "_law_holds", "_law_view"] (spBare5 C) := by
  refine F.ok sc_law_bare (fun vs H Q E h => ?_) (fun cdv A0 outer s0 H vs Q E hr h => ?_)
  · obtain ⟨A, d, t, u, es, hs, rfl, _⟩ := h
    rfl
  · obtain ⟨A, d, t, u, es, hs, rfl, i, ht, pm, nd, ok, e100, hh, mem, nmh, k⟩ := h
    have hu64 := hu64_of hr
    have nfC : PySem.W.notFirst K C (.ref C) = true := by simp [PySem.W.notFirst]
    have tyP : ∀ {H : Hp} {A : VwAt} {d : Vw}, IsVw C H A d → TyX K H (.ref A.p) (.ref C) := fun i => bi.ty vc.cl i.ins
    refine ⟨_, PSs.nox (pss_cons (ps_set (i := 3) sc_law_bare.nd rfl (Or.inl rfl) (pe_mr k_View1 hr (by decide) rfl (pa_cons (pv 0) pa_nil))) (pss_cons (ps_if (PW.pt (pw_or (pt_cmpR (op_neD hu64) (pe_pr p_View_holds hr (by decide) (pv 3) rfl) (pe_lst pa_nil) (nomark _)) (pw_or1 (pt_not (pt_val (pe_cl c_law_flag hr (by decide) rfl (pa_cons (pe_cmpR (op_oq o_View hr (by decide)) (pv 3) (pv 2) (nomark _)) (pa_cons (pe_cmpR (op_eqD hu64) (pv 1) (pe_lst pa_nil) (nomark _)) pa_nil)))))))) (pss_one (ps_ret pe_bl)) pss_nil) (pss_cons (ps_set (i := 4) sc_law_bare.nd rfl (Or.inl rfl) (pe_mr0 k_View0 hr (by decide) rfl)) (pss_cons (ps_if (PW.pt (pw_or (pt_cmpR op_ne (pe_callB (call_wl y_View_len hr (by decide)) (by rfl) T.b_len PySem.boot_len (pa_cons (pv 4) pa_nil)) pe_int (nomark _)) (pw_or (pt_cmpR (op_neD hu64) (pe_pr p_View_holds hr (by decide) (pv 4) rfl) (pe_lst pa_nil) (nomark _)) (pw_or1 (pt_cmpR (op_on o_View hr (by decide)) (pv 4) (pe_mr k_View hr (by decide) rfl (pa_cons pe_non (pa_cons (pe_tup pa_nil) pa_nil))) (nomark _)))))) (pss_one (ps_ret pe_bl)) pss_nil) (pss_one (ps_ret (pe_and (pe_not (pe_cmpR (op_oq o_View hr (by decide)) (pv 4) pe_int (nomark _))) (pe_one (pe_not (pe_cmpR (op_oq o_View hr (by decide)) (pv 4) pe_dnewK (nomark _))))))))))), ?_⟩
    refine ⟨_, rfl, fun x dx nx ndx nex => ?_⟩
    have mx := made5 (o1 := .own x) (o2 := .ins C dx []) nx ndx nex
    refine ⟨x, dx, .ref t, cd, es, [], rfl, upd_same, .inr ⟨t, rfl, mx _ _ ht⟩, nd, ok, e100, hcd _, fun _ h => (nomatch h), Nat.zero_le _, fun B e H1 eB edx fr bu iw es' eh => ⟨rfl, ?_⟩⟩
    subst eB
    have m1 : Same H H1 := fun b o e => bu b o (mx b o e) (ne_of_none e nx)
    have eh0 : e.holds = [] := List.eq_nil_iff_forall_not_mem.mpr fun z hz => nomatch (eh z).1 hz
    refine ⟨_, rfl, B.p, B.dx, _, rfl, iw.ins, B, e, rfl, iw, fun q2 h2 => ?_⟩
    have m2 := same_new (Same.refl H1) h2 (o := .lst (e.holds.map V.str))
    have e2 : (L2.upd H1 q2 (.lst (e.holds.map V.str))) q2 = some (.lst (e.holds.map V.str)) := upd_same
    generalize L2.upd H1 q2 (.lst (e.holds.map V.str)) = H2 at m2 e2 ⊢
    refine ⟨Nat.zero_le _, fun q3 h3 => ?_⟩
    have m3 := same_new m2 h3 (o := .lst [])
    have e3 : (L2.upd H2 q3 (.lst [])) q3 = some (.lst (([] : List PySem.Str).map V.str)) := upd_same
    have e32 : (L2.upd H2 q3 (.lst [])) q2 = some (.lst (e.holds.map V.str)) := by rw [upd_ne (ne_of_none e2 h3)]; exact e2
    generalize L2.upd H2 q3 (.lst []) = H3 at m3 e3 e32 ⊢
    have noS : ∀ y ∈ ([] : List PySem.Str), PyData.strOk y = true := fun _ h => nomatch h
    have soe : ∀ y ∈ e.holds, PyData.strOk y = true := fun y hy => nm_ok1 (iw.hk y hy)
    have soh : ∀ y ∈ hs, PyData.strOk y = true := fun y hy => nm_ok1 (nmh y hy)
    refine ⟨_, _, .lst (SqL.of e32) (dp_strs _), .lst (SqL.of e3) (dp_strs _), strs_shaped soe, strs_shaped noS, _, rfl, ?_⟩
    rw [eqv_strsL, decide_eq_true eh0]
    refine iteF ?_
    have iw3 := iw.same m3
    have i3 := i.same (m1.trans m3)
    refine ⟨_, rfl, _, rfl, B.p, B.dx, _, .ref C, rfl, iw3.ins, tyP i3, nfC, .inl ⟨B, A, e, d, rfl, iw3, i3, tyP i3, by rw [es']; exact pm, _, rfl, ?_⟩⟩
    refine ⟨_, rfl, Nat.zero_le _, fun q4 h4 => ?_⟩
    have m4 := (m1.trans m3).trans (same_new (Same.refl H3) h4 (o := .lst []))
    have e4 : (L2.upd H3 q4 (.lst [])) q4 = some (.lst (([] : List PySem.Str).map V.str)) := upd_same
    generalize L2.upd H3 q4 (.lst []) = H4 at m4 e4 ⊢
    refine ⟨_, _, .lst (SqL.of (m4 _ _ hh)) (dp_strs _), .lst (SqL.of e4) (dp_strs _), strs_shaped soh, strs_shaped noS, ?_⟩
    have same : decide (e.holds = d.holds) = decide (hs = []) := decide_eq_decide.mpr (by
      rw [eh0]
      constructor
      · intro z
        exact List.eq_nil_iff_forall_not_mem.mpr fun y hy => by
          have := (mem y).2 hy
          rw [← z] at this
          cases this
      · intro z
        exact (List.eq_nil_iff_forall_not_mem.mpr fun y hy => by
          have := (mem y).1 hy
          rw [z] at this
          cases this).symm)
    rw [eqv_strsL, same]
    refine ⟨decide (hs = []), rfl, true, rfl, iteF ?_⟩
    -- a view made of nothing
    intro z dz nz ndz nez
    have mz := made5 (o1 := .own z) (o2 := .ins C dz []) nz ndz nez
    refine ⟨z, dz, .non, cd, [], [], rfl, upd_same, .inl ⟨rfl, rfl⟩, List.nodup_nil, fun _ h => (nomatch h), Nat.zero_le _, hcd _, fun _ h => (nomatch h), Nat.zero_le _, fun B2 e2 H5 eB2 edx2 fr2 bu2 iz es2 eh2 => ⟨rfl, ?_⟩⟩
    subst eB2
    have m5 : Same H H5 := m4.trans fun b o e => bu2 b o (mz b o e) (ne_of_none e nz)
    have eh20 : e2.holds = [] := List.eq_nil_iff_forall_not_mem.mpr fun z hz => nomatch (eh2 z).1 hz
    have len0 : e2.sights.length = 0 := by rw [es2]; rfl
    refine ⟨_, rfl, B2.p, B2.dx, _, rfl, iz.ins, B2, e2, rfl, iz, _, rfl, by omega, by omega, rfl, _, rfl, ?_⟩
    rw [len0]
    refine iteNS rfl ?_
    refine ⟨_, rfl, B2.p, B2.dx, _, rfl, iz.ins, B2, e2, rfl, iz, fun q6 h6 => ?_⟩
    have m6 := same_new (Same.refl H5) h6 (o := .lst (e2.holds.map V.str))
    have e6 : (L2.upd H5 q6 (.lst (e2.holds.map V.str))) q6 = some (.lst (e2.holds.map V.str)) := upd_same
    generalize L2.upd H5 q6 (.lst (e2.holds.map V.str)) = H6 at m6 e6 ⊢
    refine ⟨Nat.zero_le _, fun q7 h7 => ?_⟩
    have m7 := same_new m6 h7 (o := .lst [])
    have e7 : (L2.upd H6 q7 (.lst [])) q7 = some (.lst (([] : List PySem.Str).map V.str)) := upd_same
    have e76 : (L2.upd H6 q7 (.lst [])) q6 = some (.lst (e2.holds.map V.str)) := by rw [upd_ne (ne_of_none e6 h7)]; exact e6
    generalize L2.upd H6 q7 (.lst []) = H7 at m7 e7 e76 ⊢
    have soe2 : ∀ y ∈ e2.holds, PyData.strOk y = true := fun y hy => nm_ok1 (iz.hk y hy)
    refine ⟨_, _, .lst (SqL.of e76) (dp_strs _), .lst (SqL.of e7) (dp_strs _), strs_shaped soe2, strs_shaped noS, _, rfl, ?_⟩
    rw [eqv_strsL, decide_eq_true eh20]
    refine iteF ?_
    refine ⟨_, rfl, Nat.zero_le _, fun q8 h8 => ?_⟩
    have m8 := same_new m7 h8 (o := .tup [])
    have e8 : (L2.upd H7 q8 (.tup [])) q8 = some (.tup (([] : List PySem.Str).map V.str)) := upd_same
    generalize L2.upd H7 q8 (.tup []) = H8 at m8 e8 ⊢
    intro y dy ny ndy ney
    have my := made5 (o1 := .own y) (o2 := .ins C dy []) ny ndy ney
    refine ⟨y, dy, .non, q8, [], [], rfl, upd_same, .inl ⟨rfl, rfl⟩, List.nodup_nil, fun _ h => (nomatch h), Nat.zero_le _, .tup (my _ _ e8), fun _ h => (nomatch h), Nat.zero_le _, fun B3 e3' H9 eB3 edx3 fr3 bu3 iy es3 eh3 => ⟨rfl, ?_⟩⟩
    subst eB3
    have m9 : Same H5 H9 := m8.trans fun b o e => bu3 b o (my b o e) (ne_of_none e ny)
    have eh30 : e3'.holds = [] := List.eq_nil_iff_forall_not_mem.mpr fun z hz => nomatch (eh3 z).1 hz
    have iz9 := iz.same m9
    refine ⟨B2.p, B2.dx, _, .ref C, rfl, iz9.ins, tyP iy, nfC, .inl ⟨B2, B3, e2, e3', rfl, iz9, iy, tyP iy, by rw [es2, es3], _, rfl, _, rfl, ?_⟩⟩
    rw [eh20, eh30]
    refine iteF ?_
    -- what is no view
    refine ⟨_, rfl, B2.p, B2.dx, _, _, rfl, iz9.ins, .base (.int _), bi.nf "int" (by decide), .inr ⟨B2.p, _, _, rfl, .base (.int _), bi.kt "int" (by decide), _, rfl, ?_⟩⟩
    refine ⟨_, rfl, _, rfl, iteT ⟨_, rfl, fun q10 h10 => ?_⟩⟩
    have m10 := same_new m9 h10 (o := .dK [])
    have e10 : (L2.upd H9 q10 (.dK [])) q10 = some (.dK []) := upd_same
    generalize L2.upd H9 q10 (.dK []) = H10 at m10 e10 ⊢
    have iz10 := iz.same m10
    refine ⟨B2.p, B2.dx, _, _, rfl, iz10.ins, .base (.dK e10), bi.nf "dict" (by decide), .inr ⟨B2.p, _, _, rfl, .base (.dK e10), bi.kt "dict" (by decide), _, rfl, ?_⟩⟩
    exact ⟨_, rfl, k _ (m5.trans m10)⟩
theorem cl_bare5 (T : Bt mg) (vc : VwC K C) (bi : Bi K C) (c_law_flag : Cl P w K mg base 1 "_law_flag" spFlag []) (k_View : Mr P w K mg base 3 "View" C (spView K C) []) (k_View1 : Mr P w K mg base 3 "View" C (spView K C) [.ref cd]) (k_View0 : Mr P w K mg base 3 "View" C (spView K C) [.non, .ref cd]) (hcd : ∀ H : Hp, RowAt K H cd [])
    (o_View : Oq P w K mg base 1 C (spVwEq K C)) (y_View_len : Ow P w K mg base 1 C "__len__" (spVwLen C)) (p_View_holds : Pr P w K mg base 1 C "holds" (spVwHolds C)) (a : At K mg "_law_bare" s_law_bare) : Cl P w K mg base 5 "_law_bare" (spBare5 C) [] :=
  a.cal (ps := ["_law_table", "_law_holds", "_law_view"]) (fun _ _ F => ok_bare5 T vc bi c_law_flag k_View k_View1 k_View0 hcd o_View y_View_len p_View_holds F) (fun _ _ _ _ _ _ us hl => match us, hl with | [_, _, _], _ => rfl)
end
end Lw

namespace Lw
open PySem PySem.Spec PyProof.Rows L2 Txs
open C8 (pe_gc)
/-! ### the law: slots 0 _law_script, 1 _law_stream_here, 2 _law_names, 3 _law_table, 4 _law_name, 5 _law_holder, 6 _law_holds, 7 _law_turned, 8 _law_first, 9 _law_second, 10 _law_view, 11 _law_twin, 12 _law_other, 13 _law_turn -/
def spLaw (K : PySem.W.Frag) : Sp := fun vs H Q _ => ∃ (a : Addr) (ns : List Int), vs = [.ref a] ∧ SqL K H a (ns.map V.int) ∧ ∀ H', Q (.bl true) H'
theorem one_more (a : Addr) (n : Nat) : [V.ref a, V.int (1 + (n : Int))] ++ [] = [V.ref a, V.int ((1 + n : Nat) : Int)] := by
  have e : (1 : Int) + (n : Int) = ((1 + n : Nat) : Int) := by omega
  rw [e]
  rfl
theorem cut12 (ws : List PySem.Str) : cutV (ws.map V.str) none (some 12) = (ws.take 12).map V.str := by
  have e1 : HT.sIx (ws.map V.str).length 0 none = 0 := rfl
  have e2 : HT.sIx (ws.map V.str).length (ws.map V.str).length (some 12) = min 12 (ws.map V.str).length := by
    simp [HT.sIx]
  unfold cutV
  rw [e1, e2, List.drop_zero, Nat.sub_zero, List.length_map, List.map_take]
  by_cases h : 12 ≤ ws.length
  · rw [Nat.min_eq_left h]
  · rw [Nat.min_eq_right (by omega), List.take_of_length_le (by simp), List.take_of_length_le (by simp; omega)]
/-- x sees y, too: in its place, or at the end -/
def setS (es : List (PySem.Str × PySem.Str)) (x y : PySem.Str) : List (PySem.Str × PySem.Str) :=
  if (es.any fun e => decide (e.1 = x)) = true then es.map (fun e => if e.1 = x then (e.1, y) else e) else es ++ [(x, y)]
theorem sg_set (es : List (PySem.Str × PySem.Str)) (x y : PySem.Str) : sgV (setS es x y) = putK (sgV es) (.inr x) (.str y) := by
  have ea : ((sgV es).any fun kv => decide (kv.1 = .inr x)) = es.any fun e => decide (e.1 = x) := by
    unfold sgV
    rw [List.any_map]
    congr 1
    funext e
    show decide ((.inr e.1 : Key) = .inr x) = decide (e.1 = x)
    simp only [inr_eq]
  unfold setS putK
  rw [ea]
  split
  · unfold sgV
    rw [List.map_map, List.map_map]
    refine List.map_congr_left fun e _ => ?_
    show ((.inr (if e.1 = x then (e.1, y) else e).1 : Key), V.str (if e.1 = x then (e.1, y) else e).2) = if (.inr e.1 : Key) = .inr x then ((.inr e.1 : Key), V.str y) else ((.inr e.1 : Key), V.str e.2)
    by_cases q : e.1 = x
    · rw [if_pos q, if_pos (by rw [q])]
    · rw [if_neg q, if_neg (by rw [inr_eq]; exact q)]
  · unfold sgV
    rw [List.map_append]
    rfl
theorem set_keys (es : List (PySem.Str × PySem.Str)) (x y : PySem.Str) (nd : (es.map (·.1)).Nodup) : ((setS es x y).map (·.1)).Nodup := by
  unfold setS
  split
  · rw [List.map_map]
    have : ((·.1) ∘ fun e : PySem.Str × PySem.Str => if e.1 = x then (e.1, y) else e) = (·.1) := by
      funext e
      show (if e.1 = x then (e.1, y) else e).1 = e.1
      split <;> rfl
    rw [this]
    exact nd
  · rename_i h
    rw [List.map_append]
    refine nd_add nd fun m => h ?_
    obtain ⟨e, he, q⟩ := List.mem_map.mp m
    exact List.any_eq_true.mpr ⟨e, he, decide_eq_true q⟩
theorem set_mem {es : List (PySem.Str × PySem.Str)} {x y : PySem.Str} {e : PySem.Str × PySem.Str} (h : e ∈ setS es x y) : e ∈ es ∨ e = (x, y) := by
  unfold setS at h
  split at h
  · obtain ⟨g, hg, rfl⟩ := List.mem_map.mp h
    by_cases q : g.1 = x
    · rw [if_pos q]
      exact .inr (by rw [q])
    · rw [if_neg q]
      exact .inl hg
  · rcases List.mem_append.mp h with q | q
    · exact .inl q
    · exact .inr (List.mem_singleton.mp q)
theorem set_len (es : List (PySem.Str × PySem.Str)) (x y : PySem.Str) : (setS es x y).length ≤ es.length + 1 := by
  unfold setS
  split
  · rw [List.length_map]; omega
  · rw [List.length_append]; exact Nat.le_refl _
theorem IsVw.put {C : Addr} {H : Hp} {A : VwAt} {d : Vw} {q : Addr} {o : HO} (h : IsVw C H A d) (n1 : A.p ≠ q) (n2 : A.l1 ≠ q) (n3 : A.l2 ≠ q) : IsVw C (L2.upd H q o) A d :=
  ⟨by rw [upd_ne n1]; exact h.ins, by rw [upd_ne n2]; exact h.sights, by rw [upd_ne n3]; exact h.holds, h.nd, h.ok, h.hk, h.asc, h.small⟩
theorem IsVw.but {C : Addr} {H H' : Hp} {A : VwAt} {d : Vw} {q : Addr} (h : IsVw C H A d) (k : But q H H') (n1 : A.p ≠ q) (n2 : A.l1 ≠ q) (n3 : A.l2 ≠ q) : IsVw C H' A d :=
  ⟨k _ _ h.ins n1, k _ _ h.sights n2, k _ _ h.holds n3, h.nd, h.ok, h.hk, h.asc, h.small⟩
theorem vwF_no {l1 l2 : Addr} {m : PySem.Str} (h1 : ("hold_list" : PySem.Str) ≠ m := by decide +kernel) (h2 : ("sight_table" : PySem.Str) ≠ m := by decide +kernel) : (vwF l1 l2).lookup m = none := by
  unfold vwF
  rw [lookup_putF, if_neg (fun e => h1 e.symm), lookup_putF, if_neg (fun e => h2 e.symm)]
  rfl
theorem pairs_perm {fs es : List (PySem.Str × PySem.Str)} {ss : List PySem.Str} (hs : ss.Perm (es.map (·.1))) (nd : (es.map (·.1)).Nodup) (hk : fs.map (·.1) = ss) (hm : ∀ e ∈ fs, e ∈ es) : fs.Perm es := by
  have ndk : (fs.map (·.1)).Nodup := by rw [hk]; exact hs.nodup_iff.2 nd
  have nf : ∀ {l : List (PySem.Str × PySem.Str)}, (l.map (·.1)).Nodup → l.Nodup := fun h => List.Pairwise.of_map (·.1) (fun a b n e => n (by rw [e])) h
  refine (List.perm_ext_iff_of_nodup (nf ndk) (nf nd)).2 fun e => ⟨hm e, fun he => ?_⟩
  have : e.1 ∈ fs.map (·.1) := by rw [hk]; exact hs.mem_iff.2 (List.mem_map.mpr ⟨e, he, rfl⟩)
  obtain ⟨g, hg, q⟩ := List.mem_map.mp this
  have e1 := sg_in nd (x := e.1) (y := e.2) he
  have e2 := sg_in nd (x := g.1) (y := g.2) (hm g hg)
  rw [q, e1] at e2
  have : e.2 = g.2 := by injection (Option.some.inj e2)
  have : g = e := Prod.ext q this.symm
  rw [← this]
  exact hg
theorem last_of {ws : List PySem.Str} (h : 0 < ws.length) : ∃ z, z ∈ ws ∧ atI (ws.map V.str) (-1) = some (V.str z) := by
  obtain ⟨ys, z, e⟩ : ∃ ys z, ws = ys ++ [z] := by
    rcases List.eq_nil_or_concat ws with q | ⟨ys, z, q⟩
    · rw [q] at h; exact absurd h (by simp)
    · exact ⟨ys, z, by rw [q]; simp⟩
  refine ⟨z, by rw [e]; simp, ?_⟩
  rw [e, List.map_append]
  exact atI_last _ _
section
variable {P : Program} {w : World} {K : PySem.W.Frag} {mg : PySem.Str → Option Value} {base : Heap} {C cd : Addr}
theorem ok_law (T : Bt mg) (vc : VwC K C) (bi : Bi K C) (c_law_stream : Cl P w K mg base 1 "_law_stream" (spStream K) []) (c_law_draw : Cl P w K mg base 1 "_law_draw" spDraw []) (c_law_long_names : Cl P w K mg base 2 "_law_long_names" spLong [])
    (c_law_right : Cl P w K mg base 3 "_law_right" (spRight5 C) []) (c_law_asked : Cl P w K mg base 4 "_law_asked" (spAsked5 C) []) (c_law_spoiled : Cl P w K mg base 5 "_law_spoiled" (spSpoiled5 C) []) (c_law_bare : Cl P w K mg base 5 "_law_bare" (spBare5 C) [])
    (k_View : Mr P w K mg base 3 "View" C (spView K C) []) (o_View : Oq P w K mg base 1 C (spVwEq K C)) (m_View_copy : Me P w K mg base 5 C "copy" (spVwCopy C)) (m_View_hold_just : Me P w K mg base 3 C "hold_just" (spVwHold K C))
    (y_View_getitem : Ow P w K mg base 2 C "__getitem__" (spVwItem C)) (y_View_setitem : Ow P w K mg base 2 C "__setitem__" (spVwSet C)) (p_View_holds : Pr P w K mg base 1 C "holds" (spVwHolds C))
    {f : Addr} {fd : FuncData} (F : FunD K "law" "law" (defArgs s_law) (defBody s_law) (defScope s_law) [] [] f fd) : FnOk P w K mg base CX0 7 f fd ["_law_script"] (spLaw K) := by
  refine F.ok sc_law (fun vs H Q E h => ?_) (fun cdv A0 outer s0 H vs Q E hr h => ?_)
  · obtain ⟨a, ns, rfl, _⟩ := h
    rfl
  · obtain ⟨a, ns, rfl, ha, k⟩ := h
    have hu64 := hu64_of hr
    have hu := hu_of hr
    have nfC : PySem.W.notFirst K C (.ref C) = true := by simp [PySem.W.notFirst]
    have tyP : ∀ {H : Hp} {A : VwAt} {d : Vw}, IsVw C H A d → TyX K H (.ref A.p) (.ref C) := fun i => bi.ty vc.cl i.ins
    refine ⟨_, PSs.nox (pss_cons (ps_set (i := 1) sc_law.nd rfl (Or.inl rfl) (pe_cl c_law_stream hr (by decide) rfl (pa_cons (pv 0) (pa_cons pe_int pa_nil)))) (pss_cons (ps_set (i := 2) sc_law.nd rfl (Or.inr rfl) (pe_cl c_law_long_names hr (by decide) rfl (pa_cons (pv 1) (pa_cons (pe_op op_add pe_int (pe_cl c_law_draw hr (by decide) rfl (pa_cons (pv 1) (pa_cons pe_int pa_nil)))) pa_nil)))) (pss_cons (ps_set (i := 3) sc_law.nd rfl (Or.inl rfl) pe_dnewK) (pss_cons (ps_for PassesOwn.never rfl (pi_list (pe_slice sl_list (pv 2) po_none (po_some pe_int))) (pg_name (i := 4) sc_law.nd rfl (Or.inl rfl)) (pss_one (ps_if (pt_cmpR op_gt (pe_cl c_law_draw hr (by decide) rfl (pa_cons (pv 1) (pa_cons pe_int pa_nil))) pe_int (nomark _)) (pss_one (ps_dput hu (pv 3) (pv 4) (pe_ix ix_list (pv 2) (pe_cl c_law_draw hr (by decide) rfl (pa_cons (pv 1) (pa_cons (pe_callB call_len_seq (by rfl) T.b_len PySem.boot_len (pa_cons (pv 2) pa_nil)) pa_nil))) (fun _ _ => rfl)) rfl)) pss_nil))) (pss_cons (ps_set (i := 5) sc_law.nd rfl (Or.inr rfl) (pe_cl c_law_stream hr (by decide) rfl (pa_cons (pv 0) (pa_cons pe_int pa_nil)))) (pss_cons (ps_setLc (i := 6) (own := [("_law_turn", 13)]) (tt := tYes) rfl sc_law.nd rfl rfl (sw_true rfl rfl rfl (by decide +kernel)) (pi_range1 rfl T.b_range (pa_cons (pe_cl c_law_draw hr (by decide) rfl (pa_cons (pv 5) (pa_cons pe_int pa_nil))) pa_nil)) (blkOk_by (N := N_law) (sc := defScope s_law) (by decide +kernel)) (fun _ _ _ _ _ => (pg_name (i := 13) sc_law.nd rfl (Or.inl rfl))) (fun _ _ _ _ _ => pts_nil) (fun _ _ _ _ _ => (pe_ix (ixL K) (pv 2) (pe_cl c_law_draw hr (by decide) rfl (pa_cons (pv 5) (pa_cons (pe_callB (clLen K) (by rfl) T.b_len PySem.boot_len (pa_cons (pv 2) pa_nil)) pa_nil))) (fun _ _ => rfl)))) (pss_cons (ps_set (i := 7) sc_law.nd rfl (Or.inl rfl) pe_dnewK) (pss_cons (ps_for PassesOwn.never rfl (pi_list (pe_callBK cr_sortRS (by rfl) T.b_sorted (by decide +kernel) (pa_cons (pe_callTy (call_listD rfl) (by rfl) T.b_list (by decide +kernel) (pa_cons (pv 3) pa_nil)) pa_nil) (pk_cons pe_bl pk_nil))) (pg_name (i := 4) sc_law.nd rfl (Or.inl rfl)) (pss_one (ps_dput hu (pv 7) (pv 4) (pe_dget hu (pv 3) (pv 4) (fun _ _ => rfl)) rfl))) (pss_cons (ps_set (i := 8) sc_law.nd rfl (Or.inl rfl) (pe_callTy call_dictD (by rfl) T.b_dict (by decide +kernel) (pa_cons (pv 3) pa_nil))) (pss_cons (ps_set (i := 9) sc_law.nd rfl (Or.inl rfl) (pe_callTy call_list_of (by rfl) T.b_list (by decide +kernel) (pa_cons (pv 6) pa_nil))) (pss_cons (ps_set (i := 10) sc_law.nd rfl (Or.inl rfl) (pe_mr k_View hr (by decide) rfl (pa_cons (pv 8) (pa_cons (pv 9) pa_nil)))) (pss_cons (ps_if (PW.pt (pw_or (pt_cmpR (op_ne_dictA hr.units0) (pv 8) (pv 3) (nomark _)) (pw_or1 (pt_cmpR (op_neD hu64) (pv 9) (pv 6) (nomark _))))) (pss_one (ps_ret pe_bl)) pss_nil) (pss_cons (ps_expr (pe_dclear (pv 8))) (pss_cons (ps_expr (pe_bm PySem.F.plainAttrs_list PySem.F.slot_list_append PySem.F.type_list_append mt_append (pv 9) (pa_cons pe_str pa_nil))) (pss_cons (ps_set (i := 11) sc_law.nd rfl (Or.inl rfl) (pe_mr k_View hr (by decide) rfl (pa_cons (pv 7) (pa_cons (pe_callTy call_tuple_of (by rfl) T.b_tuple (by decide +kernel) (pa_cons (pe_revL (pv 6)) pa_nil)) pa_nil)))) (pss_cons (ps_set (i := 12) sc_law.nd rfl (Or.inl rfl) (pe_me0 m_View_copy hr (by decide) (pv 10))) (pss_cons (ps_if (PW.pt (pw_or (pt_not (pt_val (pe_cl c_law_spoiled hr (by decide) rfl (pa_cons (pe_lst (pa_cons (pv 10) (pa_cons (pv 11) (pa_cons (pv 12) pa_nil)))) (pa_cons (pv 2) (pa_cons (pv 3) (pa_cons (pv 6) pa_nil))))))) (pw_or1 (pt_not (pt_val (pe_cl c_law_bare hr (by decide) rfl (pa_cons (pv 3) (pa_cons (pv 6) (pa_cons (pv 10) pa_nil))))))))) (pss_one (ps_ret pe_bl)) pss_nil) (pss_cons (ps_if (PW.pt (pw_or (pt_not (pt_cmpR (op_oq o_View hr (by decide)) (pv 10) (pv 11) (nomark _))) (pw_or1 (pt_cmpR (op_on o_View hr (by decide)) (pv 10) (pv 12) (nomark _))))) (pss_one (ps_ret pe_bl)) pss_nil) (pss_cons (ps_asg pe_str (pg_sub (pv 12) (pe_ix ix_list (pv 2) pe_int (fun _ _ => rfl)) (set_wi y_View_setitem hr (by decide)))) (pss_cons (ps_expr (pe_me m_View_hold_just hr (by decide) (pv 12) (pa_cons (pe_lst (pa_cons (pe_ix ix_list (pv 2) pe_int (fun _ _ => rfl)) (pa_cons (pe_ix ix_list (pv 2) (pe_un un_neg pe_int) (fun _ _ => rfl)) pa_nil))) pa_nil))) (pss_cons (ps_if (PW.pt (pw_or (pt_cmpR op_ne (pe_wi y_View_getitem hr (by decide) (pv 12) (pe_ix ix_list (pv 2) pe_int (fun _ _ => rfl))) pe_str (nomark _)) (pw_or1 (pt_cmpR (op_neD hu64) (pe_pr p_View_holds hr (by decide) (pv 12) rfl) (pe_callB (cr_sortedX rfl) (by rfl) T.b_sorted (by decide +kernel) (pa_cons (pe_callTy (cr_setL rfl) (by rfl) T.b_set (by decide +kernel) (pa_cons (pe_lst (pa_cons (pe_ix ix_list (pv 2) pe_int (fun _ _ => rfl)) (pa_cons (pe_ix ix_list (pv 2) (pe_un un_neg pe_int) (fun _ _ => rfl)) pa_nil))) pa_nil)) pa_nil)) (nomark _))))) (pss_one (ps_ret pe_bl)) pss_nil) (pss_one (ps_ret (pe_and (pe_cl c_law_right hr (by decide) rfl (pa_cons (pv 10) (pa_cons (pv 3) (pa_cons (pv 6) pa_nil)))) (pe_one (pe_cl c_law_asked hr (by decide) rfl (pa_cons (pv 10) (pa_cons (pv 2) (pa_cons (pv 3) pa_nil))))))))))))))))))))))))))))), ?_⟩
    refine ⟨_, rfl, a, ns, 0, rfl, ha, fun st H1 m1 f1 s1 => ?_⟩
    refine ⟨_, rfl, _, rfl, st, 14, rfl, s1, by decide, by decide, fun r2 H2 r20 r21 b2 s2 => ?_⟩
    obtain ⟨n2, rfl⟩ : ∃ m : Nat, r2 = (m : Int) := ⟨r2.toNat, by omega⟩
    refine ⟨_, _, rfl, rfl, st, 1 + n2, one_more _ _, s2, by omega, by omega, fun wa ws H3 f3 b3 s3 l3 w0 wn wnd nm => ?_⟩
    have kp3 : ∀ o, H a = some o → H3 a = some o := fun o e => b3 _ _ (b2 _ _ (m1 _ _ e) (ne_of_none e f1)) (ne_of_none e f1)
    have nwa : st ≠ wa := by
      obtain ⟨x, y, z, e⟩ := s2
      exact ne_of_none e f3
    have wn14 : ws.length ≤ 14 := by omega
    -- the table
    intro td htd
    have l4 : (L2.upd H3 td (.dK [])) wa = some (.lst (ws.map V.str)) := by rw [upd_ne (ne_of_none l3 htd)]; exact l3
    have s4 : Stm (L2.upd H3 td (.dK [])) st := s3.new htd
    have t4 : (L2.upd H3 td (.dK [])) td = some (.dK []) := upd_same
    have kp4 : ∀ o, H a = some o → (L2.upd H3 td (.dK [])) a = some o := fun o e => by rw [upd_ne (ne_of_none (kp3 o e) htd)]; exact kp3 o e
    generalize L2.upd H3 td (.dK []) = H4 at l4 s4 t4 kp4 ⊢
    have ntd : st ≠ td := by
      obtain ⟨x, y, z, e⟩ := s4
      exact ne_of e t4 fun z => nomatch z
    have nwt : wa ≠ td := ne_of l4 t4 fun z => nomatch z
    refine ⟨_, rfl, 12, rfl, wa, _, rfl, SqL.of l4, fun cw hcw => ?_⟩
    rw [cut12]
    have l5 : (L2.upd H4 cw (.lst ((ws.take 12).map V.str))) wa = some (.lst (ws.map V.str)) := by rw [upd_ne (ne_of_none l4 hcw)]; exact l4
    have s5 : Stm (L2.upd H4 cw (.lst ((ws.take 12).map V.str))) st := s4.new hcw
    have t5 : (L2.upd H4 cw (.lst ((ws.take 12).map V.str))) td = some (.dK []) := by rw [upd_ne (ne_of_none t4 hcw)]; exact t4
    have c5 : (L2.upd H4 cw (.lst ((ws.take 12).map V.str))) cw = some (.lst ((ws.take 12).map V.str)) := upd_same
    have kp5 : ∀ o, H a = some o → (L2.upd H4 cw (.lst ((ws.take 12).map V.str))) a = some o := fun o e => by rw [upd_ne (ne_of_none (kp4 o e) hcw)]; exact kp4 o e
    have ncs : st ≠ cw := by
      obtain ⟨x, y, z, e⟩ := s4
      exact ne_of_none e hcw
    have nct : cw ≠ td := (ne_of_none t4 hcw).symm
    generalize L2.upd H4 cw (.lst ((ws.take 12).map V.str)) = H5 at l5 s5 t5 c5 kp5 ⊢
    refine ⟨cw, rfl, ⟨_, SqL.of c5⟩, for_list (K := K) (xs := (ws.take 12).map V.str) (fun j σ H' => ∃ (es : List (PySem.Str × PySem.Str)) (v4 : Option V), σ = [some (.ref a), some (.ref st), some (.ref wa), some (.ref td), v4, none, none, none, none, none, none, none, none, none] ∧
      Stm H' st ∧ H' wa = some (.lst (ws.map V.str)) ∧ H' td = some (.dK (sgV es)) ∧ H' cw = some (.lst ((ws.take 12).map V.str)) ∧ (∀ o, H a = some o → H' a = some o) ∧ (∀ e ∈ es, e.1 ∈ (ws.take 12).take j ∧ e.2 ∈ ws) ∧ (es.map (·.1)).Nodup ∧ es.length ≤ j) ?_ ?_ ?_ ?_⟩
    · exact ⟨[], _, rfl, s5, l5, t5, c5, kp5, fun e h => absurd h List.not_mem_nil, List.nodup_nil, Nat.le_refl _⟩
    · rintro j σ' H' _ ⟨_, _, _, _, _, _, c, _⟩
      exact SqL.of c
    · rintro j x σ' H6 hx ⟨es, v4, rfl, s6, l6, t6, c6, kp6, sub, nd, le⟩
      obtain ⟨z, hz, rfl⟩ := strs_at hx
      have j12 : j < 12 := by
        have := (List.getElem?_eq_some_iff.mp hz).1
        rw [List.length_take] at this
        omega
      refine ⟨_, rfl, st, 3, rfl, s6, by decide, by decide, fun r7 H7 r70 r71 b7 s7 => ?_⟩
      have na : ∀ o, H a = some o → a ≠ st := fun o e => ne_of_none e f1
      have l7 := b7 _ _ l6 nwa.symm
      have t7 := b7 _ _ t6 ntd.symm
      have c7 := b7 _ _ c6 ncs.symm
      have kp7 : ∀ o, H a = some o → H7 a = some o := fun o e => b7 _ _ (kp6 o e) (na o e)
      have wid : ∀ e ∈ es, e.1 ∈ (ws.take 12).take (j + 1) ∧ e.2 ∈ ws := fun e he => ⟨by rw [take_at hz]; exact List.mem_append.mpr (.inl (sub e he).1), (sub e he).2⟩
      refine ⟨_, _, rfl, rfl, _, rfl, ite2 (fun _ => ?_) (fun _ => ?_)⟩
      · refine ⟨_, rfl, _, rfl, _, rfl, wa, _, rfl, .inl (SqL.of l7), st, _, rfl, s7, by rw [List.length_map]; omega, by rw [List.length_map]; omega, fun r8 H8 r80 r81 b8 s8 => ?_⟩
        rw [List.length_map] at r81
        obtain ⟨n8, rfl⟩ : ∃ m : Nat, r8 = (m : Int) := ⟨r8.toNat, by omega⟩
        have l8 := b8 _ _ l7 nwa.symm
        have t8 := b8 _ _ t7 ntd.symm
        have c8 := b8 _ _ c7 ncs.symm
        have kp8 : ∀ o, H a = some o → H8 a = some o := fun o e => b8 _ _ (kp7 o e) (na o e)
        obtain ⟨y, hy⟩ : ∃ y, ws[n8]? = some y := ⟨_, List.getElem?_eq_getElem (by omega)⟩
        have new : z ∉ es.map (·.1) := fun m => by
          obtain ⟨e, he, rfl⟩ := List.mem_map.mp m
          exact not_before (wnd.sublist (List.take_sublist _ _)) hz (sub e he).1
        have nv : valV (sgV es) (.inr z : Key) = none := by
          cases q : valV (sgV es) (.inr z : Key) with
          | none => rfl
          | some v =>
            obtain ⟨y', _, m⟩ := sg_some q
            exact absurd (List.mem_map.mpr ⟨_, m, rfl⟩) new
        refine ⟨wa, _, _, .str y, rfl, rfl, SqL.of l8, atI_nat (by rw [List.getElem?_map, hy]; rfl), _, rfl, _, rfl, td, _, rfl, DPut.k (k := .inr z) t8 (small1000 (by rw [sg_len]; omega)), ?_⟩
        have e8 : putK (sgV es) (.inr z : Key) (.str y) = sgV (es ++ [(z, y)]) := by
          rw [putK_new _ nv]
          unfold sgV
          rw [List.map_append]
          rfl
        rw [e8]
        refine ⟨es ++ [(z, y)], _, rfl, s8.put ntd.symm, by rw [upd_ne nwt]; exact l8, upd_same, by rw [upd_ne nct]; exact c8, fun o e => ?_, fun e he => ?_, ?_, by rw [List.length_append]; show es.length + 1 ≤ j + 1; omega⟩
        · have : a ≠ td := ne_of_none (kp3 o e) htd
          rw [upd_ne this]; exact kp8 o e
        · rcases List.mem_append.mp he with q | q
          · exact wid e q
          · rw [List.mem_singleton.mp q]
            exact ⟨by rw [take_at hz]; simp, List.mem_of_getElem? hy⟩
        · rw [List.map_append]
          exact nd_add nd new
      · exact ⟨es, _, rfl, s7, l7, t7, c7, kp7, wid, nd, by omega⟩
    rintro σ' H6 ⟨es, v4, rfl, s6, l6, t6, c6, kp6, sub, nd, le⟩
    have ok : ∀ e ∈ es, Nm e.1 ∧ Nm e.2 := fun e he => ⟨nm _ (List.mem_of_mem_take (List.mem_of_mem_take (sub e he).1)), nm _ (sub e he).2⟩
    have e12 : es.length ≤ 12 := by
      rw [List.length_map, List.length_take] at le
      omega
    have aH6 : SqL K H6 a (ns.map V.int) := sqL_keep ha fun o e => kp6 o e
    -- the words to hold
    refine ⟨_, rfl, a, ns, 1, rfl, aH6, fun sh H7 m7 f7 s7 => ?_⟩
    have l7 := m7 _ _ l6
    have t7 := m7 _ _ t6
    have nsw : sh ≠ wa := (ne_of_none l6 f7).symm
    have nst : sh ≠ td := (ne_of_none t6 f7).symm
    refine ⟨_, rfl, sh, 15, rfl, s7, by decide, by decide, fun r8 H8 r80 r81 b8 s8 => ?_⟩
    obtain ⟨n8, rfl⟩ : ∃ m : Nat, r8 = (m : Int) := ⟨r8.toNat, by omega⟩
    have l8 := b8 _ _ l7 nsw.symm
    have t8 := b8 _ _ t7 nst.symm
    refine ⟨(n8 : Int), rfl, by omega, by omega, fun D hD => ?_⟩
    have nDs : sh ≠ D := by
      obtain ⟨x, y, z, e⟩ := s8
      exact ne_of_none e hD
    have nDw : wa ≠ D := ne_of_none l8 hD
    have nDt : td ≠ D := ne_of_none t8 hD
    refine lc_range (n := n8) (fun j H' => ∃ hs : List PySem.Str, Stm H' sh ∧ H' wa = some (.lst (ws.map V.str)) ∧ H' td = some (.dK (sgV es)) ∧ H' D = some (.lst (hs.map V.str)) ∧ hs.length = j ∧ ∀ h ∈ hs, Nm h) ?_ ?_ ?_
    · exact ⟨[], s8.new hD, by rw [upd_ne nDw]; exact l8, by rw [upd_ne nDt]; exact t8, upd_same, rfl, fun _ q => nomatch q⟩
    · rintro j H9 hj ⟨hs, s9, l9, t9, d9, len, all⟩
      refine ⟨rfl, ?_⟩
      refine ⟨_, rfl, _, rfl, _, rfl, wa, _, rfl, .inl (SqL.of l9), sh, _, rfl, s9, by rw [List.length_map]; omega, by rw [List.length_map]; omega, fun r10 H10 r100 r101 b10 s10 => ?_⟩
      rw [List.length_map] at r101
      obtain ⟨n10, rfl⟩ : ∃ m : Nat, r10 = (m : Int) := ⟨r10.toNat, by omega⟩
      obtain ⟨y, hy⟩ : ∃ y, ws[n10]? = some y := ⟨_, List.getElem?_eq_getElem (by omega)⟩
      have l10 := b10 _ _ l9 nsw.symm
      refine ⟨wa, _, _, .str y, rfl, rfl, SqL.of l10, atI_nat (by rw [List.getElem?_map, hy]; rfl), ?_⟩
      refine ⟨_, b10 _ _ d9 nDs.symm, by rw [List.length_map, len]; exact small1000 (by omega), hs ++ [y], s10.put nDs.symm, by rw [upd_ne nDw]; exact l10, by rw [upd_ne nDt]; exact b10 _ _ t9 nst.symm, ?_, by rw [List.length_append, len]; rfl, fun h hh => ?_⟩
      · rw [List.map_append]; exact upd_same
      · rcases List.mem_append.mp hh with q | q
        · exact all h q
        · rw [List.mem_singleton.mp q]; exact nm y (List.mem_of_getElem? hy)
    rintro H9 ⟨hs, s9, l9, t9, d9, len, okh⟩
    have h60 : hs.length ≤ 60 := by omega
    -- the same table from behind
    intro tu htu
    have l10 : (L2.upd H9 tu (.dK [])) wa = some (.lst (ws.map V.str)) := by rw [upd_ne (ne_of_none l9 htu)]; exact l9
    have t10 : (L2.upd H9 tu (.dK [])) td = some (.dK (sgV es)) := by rw [upd_ne (ne_of_none t9 htu)]; exact t9
    have d10 : (L2.upd H9 tu (.dK [])) D = some (.lst (hs.map V.str)) := by rw [upd_ne (ne_of_none d9 htu)]; exact d9
    have u10 : (L2.upd H9 tu (.dK [])) tu = some (.dK []) := upd_same
    have nut : td ≠ tu := ne_of_none t9 htu
    generalize L2.upd H9 tu (.dK []) = H10 at l10 t10 d10 u10 ⊢
    refine ⟨_, rfl, td, sgV es, rfl, .inl t10, fun q1 h1 => ?_⟩
    rw [sg_list]
    have m11 := same_new (Same.refl H10) h1 (o := .lst ((es.map (·.1)).map V.str))
    have e11 : (L2.upd H10 q1 (.lst ((es.map (·.1)).map V.str))) q1 = some (.lst ((es.map (·.1)).map V.str)) := upd_same
    generalize L2.upd H10 q1 (.lst ((es.map (·.1)).map V.str)) = H11 at m11 e11 ⊢
    refine ⟨q1, es.map (·.1), rfl, rfl, SqL.of e11, fun ss p2 pss h2 => ?_⟩
    have m12 := same_new m11 h2 (o := .lst (ss.map V.str))
    have e12' : (L2.upd H11 p2 (.lst (ss.map V.str))) p2 = some (.lst (ss.map V.str)) := upd_same
    generalize L2.upd H11 p2 (.lst (ss.map V.str)) = H12 at m12 e12' ⊢
    have sl : ss.length ≤ 12 := by rw [pss.length_eq, List.length_map]; exact e12
    have ndp : p2 ≠ tu := ne_of e12' (m12 _ _ u10) fun z => nomatch z
    refine ⟨p2, rfl, ⟨_, SqL.of e12'⟩, for_list (K := K) (xs := ss.map V.str) (fun j σ H' => ∃ (fs : List (PySem.Str × PySem.Str)) (v4 : Option V), σ = [some (.ref a), some (.ref st), some (.ref wa), some (.ref td), v4, some (.ref sh), some (.ref D), some (.ref tu), none, none, none, none, none, none] ∧
      But tu H12 H' ∧ H' tu = some (.dK (sgV fs)) ∧ fs.map (·.1) = ss.take j ∧ ∀ e ∈ fs, e ∈ es) ?_ ?_ ?_ ?_⟩
    · exact ⟨[], _, rfl, But.refl, m12 _ _ u10, rfl, fun _ h => nomatch h⟩
    · rintro j σ' H' _ ⟨_, _, _, b, _⟩
      exact SqL.of (b _ _ e12' ndp)
    · rintro j x σ' H13 hx ⟨fs, v4, rfl, b13, u13, fk, fm⟩
      obtain ⟨z, hz, rfl⟩ := strs_at hx
      have zm : z ∈ es.map (·.1) := pss.mem_iff.1 (List.mem_of_getElem? hz)
      obtain ⟨e, he, rfl⟩ := List.mem_map.mp zm
      have t13 := b13 _ _ (m12 _ _ t10) nut
      have vz := sg_in nd (x := e.1) (y := e.2) he
      have fl : fs.length ≤ 12 := by
        have := congrArg List.length fk
        rw [List.length_map, List.length_take] at this
        omega
      have nv : valV (sgV fs) (.inr e.1 : Key) = none := by
        cases q : valV (sgV fs) (.inr e.1 : Key) with
        | none => rfl
        | some v =>
          obtain ⟨y', _, m⟩ := sg_some q
          have : e.1 ∈ ss.take j := by rw [← fk]; exact List.mem_map.mpr ⟨_, m, rfl⟩
          exact absurd this (not_before (pss.nodup_iff.2 nd) hz)
      refine ⟨_, rfl, _, rfl, td, .str e.2, rfl, by have := DGet.k (k := .inr e.1) t13; rw [vz] at this; exact this, _, rfl, _, rfl, tu, _, rfl, DPut.k (k := .inr e.1) u13 (small1000 (by rw [sg_len]; omega)), ?_⟩
      have e8 : putK (sgV fs) (.inr e.1 : Key) (.str e.2) = sgV (fs ++ [e]) := by
        rw [putK_new _ nv]
        unfold sgV
        rw [List.map_append]
        rfl
      rw [e8]
      refine ⟨fs ++ [e], _, rfl, b13.trans But.upd, upd_same, ?_, fun g hg => ?_⟩
      · rw [List.map_append, fk, take_at hz]
        rfl
      · rcases List.mem_append.mp hg with q | q
        · exact fm g q
        · rw [List.mem_singleton.mp q]; exact he
    rintro σ' H13 ⟨fs, v4', rfl, b13, u13, fk, fm⟩
    rw [List.length_map, List.take_length] at fk
    have pfe : fs.Perm es := pairs_perm pss nd fk fm
    have nda : D ≠ tu := ne_of (m12 _ _ d10) (m12 _ _ u10) fun z => nomatch z
    have nwu : wa ≠ tu := ne_of (m12 _ _ l10) (m12 _ _ u10) fun z => nomatch z
    have l13 := b13 _ _ (m12 _ _ l10) nwu
    have t13 := b13 _ _ (m12 _ _ t10) nut
    have d13 := b13 _ _ (m12 _ _ d10) nda
    refine ⟨_, rfl, td, _, rfl, .inl t13, fun p1 hp1 => ?_⟩
    have m14 := same_new (Same.refl H13) hp1 (o := .dK (sgV es))
    have a14 : (L2.upd H13 p1 (.dK (sgV es))) p1 = some (.dK (sgV es)) := upd_same
    generalize L2.upd H13 p1 (.dK (sgV es)) = H14 at m14 a14 ⊢
    refine ⟨_, rfl, D, _, rfl, .inl (SqL.of (m14 _ _ d13)), fun p2 hp2 => ?_⟩
    have m15 := same_new m14 hp2 (o := .lst (hs.map V.str))
    have b15 : (L2.upd H14 p2 (.lst (hs.map V.str))) p2 = some (.lst (hs.map V.str)) := upd_same
    have a15 : (L2.upd H14 p2 (.lst (hs.map V.str))) p1 = some (.dK (sgV es)) := by rw [upd_ne (ne_of_none a14 hp2)]; exact a14
    generalize L2.upd H14 p2 (.lst (hs.map V.str)) = H15 at m15 a15 b15 ⊢
    refine ⟨_, rfl, _, rfl, fun x dx nx ndx nex => ?_⟩
    have mx := made5 (o1 := .own x) (o2 := .ins C dx []) nx ndx nex
    refine ⟨x, dx, .ref p1, p2, es, hs, rfl, upd_same, .inr ⟨p1, rfl, mx _ _ a15⟩, nd, ok, by omega, .lst (mx _ _ b15), okh, h60, fun A d H16 eA edx fr bu iA dS dH => ⟨rfl, ?_⟩⟩
    subst eA
    have m16 : Same H15 H16 := fun b o e => bu b o (mx b o e) (ne_of_none e nx)
    have frA : ∀ l ∈ A.lists, H15 l = none := fun l hl => mx.free (fr l hl)
    have a16 := m16 _ _ a15
    have b16 := m16 _ _ b15
    obtain ⟨g1, g2⟩ := sg_deq (List.Perm.refl es) nd
    refine ⟨_, rfl, _, rfl, p1, td, _, _, rfl, rfl, a16, m16 _ _ (m15 _ _ t13), g1, g2, _, rfl, iteF ?_⟩
    have soh : ∀ y ∈ hs, PyData.strOk y = true := fun y hy => nm_ok1 (okh y hy)
    refine ⟨_, rfl, _, rfl, _, _, .lst (SqL.of b16) (dp_strs _), .lst (SqL.of (m16 _ _ (m15 _ _ d13))) (dp_strs _), strs_shaped soh, strs_shaped soh, _, rfl, ?_⟩
    rw [eqv_same (strs_shaped soh)]
    refine iteF ?_
    -- the arguments change
    refine ⟨_, rfl, .inr (.inr (.inl ⟨rfl, .inl ⟨_, a16⟩⟩)), p1, _, rfl, rfl, a16, ?_⟩
    have n12 : p1 ≠ p2 := ne_of a16 b16 fun z => nomatch z
    have nA1 : A.l1 ≠ p1 := fun e => by
      have := frA A.l1 (by simp [VwAt.lists])
      rw [e, a15] at this; cases this
    have nA2 : A.l2 ≠ p2 := fun e => by
      have := frA A.l2 (by simp [VwAt.lists])
      rw [e, b15] at this; cases this
    have i17 : IsVw C (L2.upd H16 p1 (.dK [])) A d := iA.put (ne_of iA.ins a16 fun z => nomatch z) nA1 (ne_of iA.holds a16 fun z => nomatch z)
    have b17 : (L2.upd H16 p1 (.dK [])) p2 = some (.lst (hs.map V.str)) := by rw [upd_ne n12.symm]; exact b16
    have kp17 : ∀ {b : Addr} {o : HO}, H13 b = some o → (L2.upd H16 p1 (.dK [])) b = some o := fun {b o} e => by
      rw [upd_ne (ne_of_none e hp1)]; exact m16 _ _ (m15 _ _ e)
    generalize L2.upd H16 p1 (.dK []) = H17 at i17 b17 kp17 ⊢
    refine ⟨_, rfl, .inl ⟨rfl, _, SqL.of b17⟩, p2, _, _, rfl, rfl, b17, by rw [List.length_map]; exact small1000 (by omega), ?_⟩
    have i18 : IsVw C (L2.upd H17 p2 (.lst (hs.map V.str ++ [.str "late"]))) A d := i17.put (ne_of i17.ins b17 fun z => nomatch z) (ne_of i17.sights b17 fun z => nomatch z) nA2
    have kp18 : ∀ {b : Addr} {o : HO}, H13 b = some o → (L2.upd H17 p2 (.lst (hs.map V.str ++ [.str "late"]))) b = some o := fun {b o} e => by
      rw [upd_ne (ne_of_none (m14 _ _ e) hp2)]; exact kp17 e
    generalize L2.upd H17 p2 (.lst (hs.map V.str ++ [.str "late"])) = H18 at i18 kp18 ⊢
    have l18 := kp18 l13
    have t18 := kp18 t13
    have u18 := kp18 u13
    have d18 := kp18 d13
    -- the twin
    refine ⟨_, rfl, _, rfl, D, _, rfl, SqL.of d18, fun r1 hr1 => ⟨r1, _, rfl, .inl ⟨SqL.of upd_same, fun t2 ht2 => ?_⟩⟩⟩
    have m20 : Same H18 (L2.upd (L2.upd H18 r1 (.lst (hs.map V.str).reverse)) t2 (.tup (hs.map V.str).reverse)) := same_new (same_new (Same.refl _) hr1) ht2
    have e20 : (L2.upd (L2.upd H18 r1 (.lst (hs.map V.str).reverse)) t2 (.tup (hs.map V.str).reverse)) t2 = some (.tup (hs.map V.str).reverse) := upd_same
    generalize L2.upd (L2.upd H18 r1 (.lst (hs.map V.str).reverse)) t2 (.tup (hs.map V.str).reverse) = H20 at m20 e20 ⊢
    intro y dy ny ndy ney
    have my := made5 (o1 := .own y) (o2 := .ins C dy []) ny ndy ney
    have ndf : (fs.map (·.1)).Nodup := (pfe.map _).nodup_iff.2 nd
    refine ⟨y, dy, .ref tu, t2, fs, hs.reverse, rfl, upd_same, .inr ⟨tu, rfl, my _ _ (m20 _ _ u18)⟩, ndf, fun e he => ok e (fm e he), by rw [pfe.length_eq]; omega, .tup (by rw [List.map_reverse]; exact my _ _ e20), fun h hh => okh h (List.mem_reverse.mp hh), by rw [List.length_reverse]; exact h60, fun A2 d2 H21 eA2 edx2 fr2 bu2 iA2 dS2 dH2 => ⟨rfl, ?_⟩⟩
    subst eA2
    have m21 : Same H18 H21 := fun b o e => bu2 b o (my b o (m20 b o e)) (ne_of_none (m20 b o e) ny)
    have i21 := i18.same m21
    -- the other
    refine ⟨_, rfl, A.p, A.dx, _, rfl, i21.ins, vwF_no, A, d, rfl, i21, fun B H22 fB frB m22 iB => ?_⟩
    have i22 := i21.same m22
    have j22 := iA2.same m22
    have mm22 : Same H18 H22 := m21.trans m22
    have dl : d.sights.length ≤ 12 := by rw [dS]; exact e12
    have memd : ∀ x, x ∈ d.holds ↔ x ∈ hs := dH
    have pde : d.sights.Perm es := by rw [dS]
    have p2e : d2.sights.Perm es := by rw [dS2]; exact pfe
    have mem2 : ∀ x, x ∈ d2.holds ↔ x ∈ hs := fun x => (dH2 x).trans List.mem_reverse
    refine ⟨_, rfl, _, rfl, _, rfl, (by show 3 ≤ sizeLine; decide), fun pl hpl => ?_⟩
    have m23 := same_new (Same.refl H22) hpl (o := .lst [.ref A.p, .ref A2.p, .ref B.p])
    have e23 : (L2.upd H22 pl (.lst [.ref A.p, .ref A2.p, .ref B.p])) pl = some (.lst [.ref A.p, .ref A2.p, .ref B.p]) := upd_same
    generalize L2.upd H22 pl (.lst [.ref A.p, .ref A2.p, .ref B.p]) = H23 at m23 e23 ⊢
    have mm23 := mm22.trans m23
    have all3 : ∀ G ∈ [(A, d), (A2, d2), (B, d)], IsVw C H23 G.1 G.2 ∧ G.2.sights.length < 64 ∧ G.2.sights.Perm es ∧ ∀ x, x ∈ G.2.holds ↔ x ∈ hs := fun G hG => by
      simp only [List.mem_cons, List.not_mem_nil, or_false] at hG
      rcases hG with rfl | rfl | rfl
      · exact ⟨i22.same m23, by show d.sights.length < 64; omega, pde, memd⟩
      · exact ⟨j22.same m23, by show d2.sights.length < 64; rw [p2e.length_eq]; omega, p2e, mem2⟩
      · exact ⟨iB.same m23, by show d.sights.length < 64; omega, pde, memd⟩
    refine ⟨_, rfl, _, rfl, _, rfl, pl, wa, td, D, [(A, d), (A2, d2), (B, d)], ws, es, hs, rfl, e23, (by show 3 ≤ 10; decide), all3, mm23 _ _ l18, nm, mm23 _ _ t18, mm23 _ _ d18, h60, fun H24 m24 => ⟨true, rfl, iteF ?_⟩⟩
    have n24 := m23.trans m24
    have mm24 := mm23.trans m24
    refine ⟨_, rfl, _, rfl, _, rfl, A, d, td, D, es, hs, rfl, i22.same n24, mm24 _ _ t18, pde.symm, nd, ok, by omega, mm24 _ _ d18, memd, okh, fun H25 m25 => ⟨true, rfl, iteF ?_⟩⟩
    have n25 := n24.trans m25
    have mm25 := mm24.trans m25
    have i25 := i22.same n25
    have j25 := j22.same n25
    have k25 := iB.same n25
    have hh2 : d.holds = d2.holds := i25.asc.one j25.asc fun x => (memd x).trans (mem2 x).symm
    refine ⟨_, rfl, _, rfl, A.p, A.dx, _, .ref C, rfl, i25.ins, tyP j25, nfC, .inl ⟨A, A2, d, d2, rfl, i25, j25, tyP j25, pde.trans p2e.symm, _, rfl, _, rfl, ?_⟩⟩
    rw [decide_eq_true hh2]
    refine iteF ?_
    refine ⟨_, rfl, _, rfl, A.p, A.dx, _, .ref C, rfl, i25.ins, tyP k25, nfC, .inl ⟨A, B, d, d, rfl, i25, k25, tyP k25, List.Perm.refl _, _, rfl, _, rfl, ?_⟩⟩
    rw [decide_eq_true rfl]
    refine iteF ?_
    -- the other one is changed
    obtain ⟨w0', hw0⟩ : ∃ w0, ws[0]? = some w0 := ⟨_, List.getElem?_eq_getElem w0⟩
    have nm0 := nm w0' (List.mem_of_getElem? hw0)
    have ix0 : atI (ws.map V.str) 0 = some (V.str w0') := atI_ok (n := 0) rfl (by rw [List.getElem?_map, hw0]; rfl)
    have nmN : Nm "notice" := nmB_iff.1 (by decide +kernel)
    have l25 := mm25 _ _ l18
    have t25 := mm25 _ _ t18
    have d25 := mm25 _ _ d18
    refine ⟨_, rfl, _, rfl, wa, _, _, .str w0', rfl, rfl, SqL.of l25, ix0, B.p, B.dx, _, rfl, k25.ins, B, d, w0', .str "notice", rfl, k25, nm0, .inl ⟨"notice", rfl, nmN, ?_⟩⟩
    rw [← sg_set]
    have fB1 : ∀ {b : Addr} {o : HO}, H21 b = some o → b ≠ B.l1 := fun {b o} e => ne_of_none e (frB _ (by simp [VwAt.lists]))
    have i26 : IsVw C (L2.upd H25 B.l1 (.dK (sgV (setS d.sights w0' "notice")))) A d := i25.put (fB1 i21.ins) (fB1 i21.sights) (fB1 i21.holds)
    have k26 : IsVw C (L2.upd H25 B.l1 (.dK (sgV (setS d.sights w0' "notice")))) B ⟨setS d.sights w0' "notice", d.holds⟩ :=
      ⟨by rw [upd_ne (ne_of k25.ins k25.sights fun z => nomatch z)]; exact k25.ins, upd_same, by rw [upd_ne (ne_of k25.holds k25.sights fun z => nomatch z)]; exact k25.holds, set_keys _ _ _ k25.nd,
        fun e he => (set_mem he).elim (k25.ok e) fun q => by rw [q]; exact ⟨nm0, nmN⟩, k25.hk, k25.asc, Nat.le_trans (set_len _ _ _) (by omega), k25.small.2⟩
    have kp26 : ∀ {b : Addr} {o : HO}, H18 b = some o → (L2.upd H25 B.l1 (.dK (sgV (setS d.sights w0' "notice")))) b = some o := fun {b o} e => by
      rw [upd_ne (fB1 (m21 _ _ e))]; exact mm25 _ _ e
    generalize L2.upd H25 B.l1 (.dK (sgV (setS d.sights w0' "notice"))) = H26 at i26 k26 kp26 ⊢
    have l26 := kp26 l18
    obtain ⟨wl, hwl, ixl⟩ := last_of w0
    have nml := nm wl hwl
    refine ⟨_, rfl, B.p, B.dx, _, rfl, k26.ins, vwF_no, _, rfl, wa, _, _, .str w0', rfl, rfl, SqL.of l26, ix0, _, rfl, _, rfl, wa, _, _, .str wl, rfl, rfl, SqL.of l26, ixl, (by show 2 ≤ sizeLine; decide), fun q2 hq2 => ?_⟩
    have m27 := same_new (Same.refl H26) hq2 (o := .lst [.str w0', .str wl])
    have e27 : (L2.upd H26 q2 (.lst [.str w0', .str wl])) q2 = some (.lst (([w0', wl] : List PySem.Str).map V.str)) := upd_same
    generalize L2.upd H26 q2 (.lst [.str w0', .str wl]) = H27 at m27 e27 ⊢
    have nm2 : ∀ h ∈ ([w0', wl] : List PySem.Str), Nm h := fun h hh => by
      simp only [List.mem_cons, List.not_mem_nil, or_false] at hh
      rcases hh with rfl | rfl
      · exact nm0
      · exact nml
    refine ⟨B, _, q2, [w0', wl], rfl, k26.same m27,   .lst e27, nm2, (by show 2 ≤ 60; decide), fun l2 ys H28 f28 b28 k28 mem28 => ?_⟩
    have fBp : ∀ {b : Addr} {o : HO}, H21 b = some o → b ≠ B.p := fun {b o} e => ne_of_none e fB
    have i28 : IsVw C H28 A d := (i26.same m27).but b28 (fBp i21.ins) (fBp i21.sights) (fBp i21.holds)
    have kp28 : ∀ {b : Addr} {o : HO}, H18 b = some o → H28 b = some o := fun {b o} e => b28 _ _ (m27 _ _ (kp26 e)) (fBp (m21 _ _ e))
    have l28 := kp28 l18
    refine ⟨_, rfl, _, rfl, wa, _, _, .str w0', rfl, rfl, SqL.of l28, ix0, B.p, B.dx, _, rfl, k28.ins, ⟨B.p, B.dx, B.l1, l2⟩, _, w0', rfl, k28, nm0, ?_⟩
    have vn : valV (sgV (setS d.sights w0' "notice")) (.inr w0' : Key) = some (.str "notice") := by rw [sg_set, valV_put, if_pos rfl]
    rw [vn]
    refine ⟨rfl, _, rfl, iteNS rfl ?_⟩
    refine ⟨_, rfl, B.p, B.dx, _, rfl, k28.ins, ⟨B.p, B.dx, B.l1, l2⟩, _, rfl, k28, fun q30 h30 => ?_⟩
    have m30 := same_new (Same.refl H28) h30 (o := .lst (ys.map V.str))
    have e30 : (L2.upd H28 q30 (.lst (ys.map V.str))) q30 = some (.lst (ys.map V.str)) := upd_same
    generalize L2.upd H28 q30 (.lst (ys.map V.str)) = H30 at m30 e30 ⊢
    have l30 := m30 _ _ l28
    refine ⟨_, rfl, wa, _, _, .str w0', rfl, rfl, SqL.of l30, ix0, _, rfl, _, rfl, wa, _, _, .str wl, rfl, rfl, SqL.of l30, ixl, (by show 2 ≤ sizeLine; decide), fun q31 h31 => ?_⟩
    have m31 := same_new m30 h31 (o := .lst [.str w0', .str wl])
    have e31 : (L2.upd H30 q31 (.lst [.str w0', .str wl])) q31 = some (.lst (([w0', wl] : List PySem.Str).map V.str)) := upd_same
    have e310 : (L2.upd H30 q31 (.lst [.str w0', .str wl])) q30 = some (.lst (ys.map V.str)) := by rw [upd_ne (ne_of_none e30 h31)]; exact e30
    generalize L2.upd H30 q31 (.lst [.str w0', .str wl]) = H31 at m31 e31 e310 ⊢
    refine ⟨q31, [w0', wl], rfl, .inl (SqL.of e31), (by unfold scanBound; show 2 + 1 < 4096; decide), fun q32 c hq32 hc => ?_⟩
    have hc : c ≤ 2 := hc
    refine ⟨q32, _, c, rfl, upd_same, by omega, fun zs q33 asc mem' len' h33 => ?_⟩
    generalize SetX (cxOf CX0 P w K mg base ["_law_script", "_law_stream_here", "_law_names", "_law_table", "_law_name", "_law_holder", "_law_holds", "_law_turned", "_law_first", "_law_second", "_law_view", "_law_twin", "_law_other", "_law_turn"] "law" (defScope s_law) f cdv A0 outer s0 H E).nox.prog (cxOf CX0 P w K mg base ["_law_script", "_law_stream_here", "_law_names", "_law_table", "_law_name", "_law_holder", "_law_holds", "_law_turned", "_law_first", "_law_second", "_law_view", "_law_twin", "_law_other", "_law_turn"] "law" (defScope s_law) f cdv A0 outer s0 H E).nox.w q32 (fun x => decide (x ∈ [w0', wl])) c = so at h33 ⊢
    have ez : zs = ys := asc.one k28.asc fun x => ((mem' x).trans decide_eq_true_iff).trans (mem28 x).symm
    rw [ez]
    have m33 : Same H28 (L2.upd (L2.upd H31 q32 so) q33 (.lst (ys.map V.str))) := same_new (same_new m31 hq32) h33
    have e33 : (L2.upd (L2.upd H31 q32 so) q33 (.lst (ys.map V.str))) q33 = some (.lst (ys.map V.str)) := upd_same
    have e330 : (L2.upd (L2.upd H31 q32 so) q33 (.lst (ys.map V.str))) q30 = some (.lst (ys.map V.str)) := by
      have z : (L2.upd H31 q32 so) q30 = some (.lst (ys.map V.str)) := by rw [upd_ne (ne_of_none e310 hq32)]; exact e310
      rw [upd_ne (ne_of_none z h33)]; exact z
    generalize L2.upd (L2.upd H31 q32 so) q33 (.lst (ys.map V.str)) = H33 at m33 e33 e330 ⊢
    have soy : ∀ y ∈ ys, PyData.strOk y = true := fun y hy => nm_ok1 (k28.hk y hy)
    refine ⟨_, _, .lst (SqL.of e330) (dp_strs _), .lst (SqL.of e33) (dp_strs _), strs_shaped soy, strs_shaped soy, _, rfl, ?_⟩
    rw [eqv_same (strs_shaped soy)]
    refine iteF ?_
    have i33 := i28.same m33
    have t33 := m33 _ _ (kp28 t18)
    refine ⟨_, rfl, _, rfl, _, rfl, A, d, td, D, es, hs, rfl, i33, by omega, t33, pde, m33 _ _ (kp28 d18), memd, h60, fun H34 m34 => ⟨true, rfl, ?_⟩⟩
    exact ⟨_, rfl, _, rfl, _, rfl, A, d, wa, td, ws, es, rfl, i33.same m34, m34 _ _ (m33 _ _ l28), nm, m34 _ _ t33, pde, fun H35 m35 => k _⟩
end
end Lw

namespace Lw
open PySem PySem.Spec PyProof.Rows L2 Txs
/-! ### what the top leaves -/
def tupA (K : PySem.W.Frag) (a : Addr) : Bool := match K.lookup a with
  | some ⟨.type c, _, .seq its _, _⟩ => decide (c = "tuple") && decide (its.size = 0)
  | _ => false
theorem tupA_ok {K : PySem.W.Frag} {a : Addr} (h : tupA K a = true) (H : Hp) : RowAt K H a [] := by
  unfold tupA at h
  cases q : K.lookup a with
  | none => rw [q] at h; cases h
  | some o =>
    obtain ⟨oc, od, dt, osl⟩ := o
    rw [q] at h
    cases oc with
    | type c =>
      cases dt with
      | seq its n =>
        obtain ⟨h1, h2⟩ := He.ba (show (decide (c = "tuple") && decide (its.size = 0)) = true from h)
        have h1 := of_decide_eq_true h1
        have h2 := of_decide_eq_true h2
        subst h1
        have e : its.toList = [] := by
          apply List.eq_nil_of_length_eq_zero
          rw [Array.length_toList]; exact h2
        refine ⟨.inr (.inr ⟨_, its, n, q, rfl, rfl, by omega, by rw [e]; exact .nil⟩), _, .kTuple q rfl, kit_tuple⟩
      | _ => cases h
    | _ => cases h
def dp_law_stream : Hd.DefP := ⟨fun K => He.ga K "_law_stream", "_law_stream", "_law_stream", defArgs s_law_stream, defBody s_law_stream, defScope s_law_stream, []⟩
def dp_law_draw : Hd.DefP := ⟨fun K => He.ga K "_law_draw", "_law_draw", "_law_draw", defArgs s_law_draw, defBody s_law_draw, defScope s_law_draw, []⟩
def dp_law_is_integer : Hd.DefP := ⟨fun K => He.ga K "_law_is_integer", "_law_is_integer", "_law_is_integer", defArgs s_law_is_integer, defBody s_law_is_integer, defScope s_law_is_integer, []⟩
def dp_law_flag : Hd.DefP := ⟨fun K => He.ga K "_law_flag", "_law_flag", "_law_flag", defArgs s_law_flag, defBody s_law_flag, defScope s_law_flag, []⟩
def dp_law_long_names : Hd.DefP := ⟨fun K => He.ga K "_law_long_names", "_law_long_names", "_law_long_names", defArgs s_law_long_names, defBody s_law_long_names, defScope s_law_long_names, []⟩
def dp_law_right : Hd.DefP := ⟨fun K => He.ga K "_law_right", "_law_right", "_law_right", defArgs s_law_right, defBody s_law_right, defScope s_law_right, []⟩
def dp_law_asked : Hd.DefP := ⟨fun K => He.ga K "_law_asked", "_law_asked", "_law_asked", defArgs s_law_asked, defBody s_law_asked, defScope s_law_asked, []⟩
def dp_law_spoiled : Hd.DefP := ⟨fun K => He.ga K "_law_spoiled", "_law_spoiled", "_law_spoiled", defArgs s_law_spoiled, defBody s_law_spoiled, defScope s_law_spoiled, []⟩
def dp_law_bare : Hd.DefP := ⟨fun K => He.ga K "_law_bare", "_law_bare", "_law_bare", defArgs s_law_bare, defBody s_law_bare, defScope s_law_bare, []⟩
def dp_law : Hd.DefP := ⟨fun K => He.ga K "law", "law", "law", defArgs s_law, defBody s_law, defScope s_law, []⟩
def dp_is_name : Hd.DefP := ⟨fun K => He.ga K "is_name", "is_name", "is_name", defArgs s_is_name, defBody s_is_name, defScope s_is_name, []⟩
def dp_is_row : Hd.DefP := ⟨fun K => He.ga K "is_row", "is_row", "is_row", defArgs s_is_row, defBody s_is_row, defScope s_is_row, []⟩
def dp_check_sights : Hd.DefP := ⟨fun K => He.ga K "check_sights", "check_sights", "check_sights", defArgs s_check_sights, defBody s_check_sights, defScope s_check_sights, []⟩
def dp_check_words : Hd.DefP := ⟨fun K => He.ga K "check_words", "check_words", "check_words", defArgs s_check_words, defBody s_check_words, defScope s_check_words, []⟩
def dp_View___init__ : Hd.DefP := ⟨fun K => He.ma K (He.ga K "View") "__init__", "__init__", "View.__init__", defArgs s_View___init__, defBody s_View___init__, defScope s_View___init__, [.non, .adr (He.dflAt ("View", some "__init__") 1)]⟩
def dp_View___eq__ : Hd.DefP := ⟨fun K => He.ma K (He.ga K "View") "__eq__", "__eq__", "View.__eq__", defArgs s_View___eq__, defBody s_View___eq__, defScope s_View___eq__, []⟩
def dp_View___len__ : Hd.DefP := ⟨fun K => He.ma K (He.ga K "View") "__len__", "__len__", "View.__len__", defArgs s_View___len__, defBody s_View___len__, defScope s_View___len__, []⟩
def dp_View___contains__ : Hd.DefP := ⟨fun K => He.ma K (He.ga K "View") "__contains__", "__contains__", "View.__contains__", defArgs s_View___contains__, defBody s_View___contains__, defScope s_View___contains__, []⟩
def dp_View___getitem__ : Hd.DefP := ⟨fun K => He.ma K (He.ga K "View") "__getitem__", "__getitem__", "View.__getitem__", defArgs s_View___getitem__, defBody s_View___getitem__, defScope s_View___getitem__, []⟩
def dp_View___setitem__ : Hd.DefP := ⟨fun K => He.ma K (He.ga K "View") "__setitem__", "__setitem__", "View.__setitem__", defArgs s_View___setitem__, defBody s_View___setitem__, defScope s_View___setitem__, []⟩
def dp_View_words : Hd.DefP := ⟨fun K => Hd.gAt K (He.ga K "View") "words", "words", "View.words", defArgs s_View_words, defBody s_View_words, defScope s_View_words, []⟩
def dp_View_sights : Hd.DefP := ⟨fun K => Hd.gAt K (He.ga K "View") "sights", "sights", "View.sights", defArgs s_View_sights, defBody s_View_sights, defScope s_View_sights, []⟩
def dp_View_holds : Hd.DefP := ⟨fun K => Hd.gAt K (He.ga K "View") "holds", "holds", "View.holds", defArgs s_View_holds, defBody s_View_holds, defScope s_View_holds, []⟩
def dp_View_hold_just : Hd.DefP := ⟨fun K => He.ma K (He.ga K "View") "hold_just", "hold_just", "View.hold_just", defArgs s_View_hold_just, defBody s_View_hold_just, defScope s_View_hold_just, []⟩
def dp_View_copy : Hd.DefP := ⟨fun K => He.ma K (He.ga K "View") "copy", "copy", "View.copy", defArgs s_View_copy, defBody s_View_copy, defScope s_View_copy, []⟩
def fnL : List Hd.DefP := [dp_law_stream, dp_law_draw, dp_law_is_integer, dp_law_flag, dp_law_long_names, dp_law_right, dp_law_asked, dp_law_spoiled, dp_law_bare, dp_law, dp_is_name, dp_is_row, dp_check_sights, dp_check_words, dp_View___init__, dp_View___eq__, dp_View___len__, dp_View___contains__, dp_View___getitem__, dp_View___setitem__, dp_View_words, dp_View_sights, dp_View_holds, dp_View_hold_just, dp_View_copy]
def faL : List He.Fa := [.glo "_law_stream", .glo "_law_draw", .glo "_law_is_integer", .glo "_law_flag", .glo "_law_long_names", .glo "_law_right", .glo "_law_asked", .glo "_law_spoiled", .glo "_law_bare", .glo "law", .glo "is_name", .glo "is_row", .glo "check_sights", .glo "check_words", .glo "View", .free "len", .free "isinstance", .free "sorted", .free "range", .free "enumerate", .free "zip", .free "all", .free "int", .free "list", .free "tuple", .free "set", .free "str", .free "bool", .free "dict", .str "LETTERS" "abcdefghijklmnopqrstuvwxyz", .int "LONGEST_NAME" 12, .cls "View", .mkr "View", .noat "View" "sight_table", .noat "View" "hold_list", .meth "View" "copy", .meth "View" "hold_just"]
def exL (K : PySem.W.Frag) : Bool := (Hd.propB K (He.ga K "View") "words" && (Hd.propB K (He.ga K "View") "sights" && (Hd.propB K (He.ga K "View") "holds" && (tupA K (He.dflAt ("View", some "__init__") 1 K) && (biB K (He.ga K "View") && (ownB K (He.ga K "View") && (spcB K (He.ga K "View") "__len__" && (spcB K (He.ga K "View") "__contains__" && (spcB K (He.ga K "View") "__getitem__" && (spcB K (He.ga K "View") "__setitem__" && true))))))))))
section
variable {P : Program} {w : World} {K : PySem.W.Frag} {h : Heap} {mg : PySem.Str → Option Value}
theorem bt_of (X : K.In h) (G : h.Ns mainGlobals mg) (c : Hd.Says faL exL fnL K) : Bt mg := ⟨He.free_ok X G (c.fact 15 (f := .free "len") rfl), He.free_ok X G (c.fact 16 (f := .free "isinstance") rfl), He.free_ok X G (c.fact 17 (f := .free "sorted") rfl), He.free_ok X G (c.fact 18 (f := .free "range") rfl), He.free_ok X G (c.fact 19 (f := .free "enumerate") rfl), He.free_ok X G (c.fact 20 (f := .free "zip") rfl), He.free_ok X G (c.fact 21 (f := .free "all") rfl), He.free_ok X G (c.fact 22 (f := .free "int") rfl), He.free_ok X G (c.fact 23 (f := .free "list") rfl), He.free_ok X G (c.fact 24 (f := .free "tuple") rfl), He.free_ok X G (c.fact 25 (f := .free "set") rfl), He.free_ok X G (c.fact 26 (f := .free "str") rfl), He.free_ok X G (c.fact 27 (f := .free "bool") rfl), He.free_ok X G (c.fact 28 (f := .free "dict") rfl), let ⟨t, e⟩ := He.str_ok X G (c.fact 29 (f := .str "LETTERS" "abcdefghijklmnopqrstuvwxyz") rfl); ⟨_, e, t, rfl⟩, let ⟨t, e⟩ := He.int_ok X G (c.fact 30 (f := .int "LONGEST_NAME" 12) rfl); ⟨_, e, t, rfl⟩⟩
theorem at_law_stream (X : K.In h) (G : h.Ns mainGlobals mg) (c : Hd.Says faL exL fnL K) : At K mg "_law_stream" s_law_stream := ⟨_, let ⟨fd, F⟩ := c.def_ 0 (d := dp_law_stream) rfl; ⟨fd, F, He.glo_ok X G (c.fact 0 (f := .glo "_law_stream") rfl)⟩⟩
theorem at_law_draw (X : K.In h) (G : h.Ns mainGlobals mg) (c : Hd.Says faL exL fnL K) : At K mg "_law_draw" s_law_draw := ⟨_, let ⟨fd, F⟩ := c.def_ 1 (d := dp_law_draw) rfl; ⟨fd, F, He.glo_ok X G (c.fact 1 (f := .glo "_law_draw") rfl)⟩⟩
theorem at_law_is_integer (X : K.In h) (G : h.Ns mainGlobals mg) (c : Hd.Says faL exL fnL K) : At K mg "_law_is_integer" s_law_is_integer := ⟨_, let ⟨fd, F⟩ := c.def_ 2 (d := dp_law_is_integer) rfl; ⟨fd, F, He.glo_ok X G (c.fact 2 (f := .glo "_law_is_integer") rfl)⟩⟩
theorem at_law_flag (X : K.In h) (G : h.Ns mainGlobals mg) (c : Hd.Says faL exL fnL K) : At K mg "_law_flag" s_law_flag := ⟨_, let ⟨fd, F⟩ := c.def_ 3 (d := dp_law_flag) rfl; ⟨fd, F, He.glo_ok X G (c.fact 3 (f := .glo "_law_flag") rfl)⟩⟩
theorem at_law_long_names (X : K.In h) (G : h.Ns mainGlobals mg) (c : Hd.Says faL exL fnL K) : At K mg "_law_long_names" s_law_long_names := ⟨_, let ⟨fd, F⟩ := c.def_ 4 (d := dp_law_long_names) rfl; ⟨fd, F, He.glo_ok X G (c.fact 4 (f := .glo "_law_long_names") rfl)⟩⟩
theorem at_law_right (X : K.In h) (G : h.Ns mainGlobals mg) (c : Hd.Says faL exL fnL K) : At K mg "_law_right" s_law_right := ⟨_, let ⟨fd, F⟩ := c.def_ 5 (d := dp_law_right) rfl; ⟨fd, F, He.glo_ok X G (c.fact 5 (f := .glo "_law_right") rfl)⟩⟩
theorem at_law_asked (X : K.In h) (G : h.Ns mainGlobals mg) (c : Hd.Says faL exL fnL K) : At K mg "_law_asked" s_law_asked := ⟨_, let ⟨fd, F⟩ := c.def_ 6 (d := dp_law_asked) rfl; ⟨fd, F, He.glo_ok X G (c.fact 6 (f := .glo "_law_asked") rfl)⟩⟩
theorem at_law_spoiled (X : K.In h) (G : h.Ns mainGlobals mg) (c : Hd.Says faL exL fnL K) : At K mg "_law_spoiled" s_law_spoiled := ⟨_, let ⟨fd, F⟩ := c.def_ 7 (d := dp_law_spoiled) rfl; ⟨fd, F, He.glo_ok X G (c.fact 7 (f := .glo "_law_spoiled") rfl)⟩⟩
theorem at_law_bare (X : K.In h) (G : h.Ns mainGlobals mg) (c : Hd.Says faL exL fnL K) : At K mg "_law_bare" s_law_bare := ⟨_, let ⟨fd, F⟩ := c.def_ 8 (d := dp_law_bare) rfl; ⟨fd, F, He.glo_ok X G (c.fact 8 (f := .glo "_law_bare") rfl)⟩⟩
theorem at_law (X : K.In h) (G : h.Ns mainGlobals mg) (c : Hd.Says faL exL fnL K) : At K mg "law" s_law := ⟨_, let ⟨fd, F⟩ := c.def_ 9 (d := dp_law) rfl; ⟨fd, F, He.glo_ok X G (c.fact 9 (f := .glo "law") rfl)⟩⟩
theorem at_is_name (X : K.In h) (G : h.Ns mainGlobals mg) (c : Hd.Says faL exL fnL K) : At K mg "is_name" s_is_name := ⟨_, let ⟨fd, F⟩ := c.def_ 10 (d := dp_is_name) rfl; ⟨fd, F, He.glo_ok X G (c.fact 10 (f := .glo "is_name") rfl)⟩⟩
theorem at_is_row (X : K.In h) (G : h.Ns mainGlobals mg) (c : Hd.Says faL exL fnL K) : At K mg "is_row" s_is_row := ⟨_, let ⟨fd, F⟩ := c.def_ 11 (d := dp_is_row) rfl; ⟨fd, F, He.glo_ok X G (c.fact 11 (f := .glo "is_row") rfl)⟩⟩
theorem at_check_sights (X : K.In h) (G : h.Ns mainGlobals mg) (c : Hd.Says faL exL fnL K) : At K mg "check_sights" s_check_sights := ⟨_, let ⟨fd, F⟩ := c.def_ 12 (d := dp_check_sights) rfl; ⟨fd, F, He.glo_ok X G (c.fact 12 (f := .glo "check_sights") rfl)⟩⟩
theorem at_check_words (X : K.In h) (G : h.Ns mainGlobals mg) (c : Hd.Says faL exL fnL K) : At K mg "check_words" s_check_words := ⟨_, let ⟨fd, F⟩ := c.def_ 13 (d := dp_check_words) rfl; ⟨fd, F, He.glo_ok X G (c.fact 13 (f := .glo "check_words") rfl)⟩⟩
theorem cls_View (c : Hd.Says faL exL fnL K) : Cls K (He.ga K "View") := He.cls_ok (c.fact 31 (f := .cls "View") rfl)
theorem gl_View (X : K.In h) (G : h.Ns mainGlobals mg) (c : Hd.Says faL exL fnL K) : mg "View" = some (.ref (He.ga K "View")) := He.glo_ok X G (c.fact 14 (f := .glo "View") rfl)
theorem mkr_View (c : Hd.Says faL exL fnL K) : Mk K (He.ga K "View") (He.ma K (He.ga K "View") "__init__") := He.mkr_ok (c.fact 32 (f := .mkr "View") rfl)
theorem no_View_sight_table (c : Hd.Says faL exL fnL K) : NoAttr K (He.ga K "View") "sight_table" := He.noat_ok (c.fact 33 (f := .noat "View" "sight_table") rfl)
theorem no_View_hold_list (c : Hd.Says faL exL fnL K) : NoAttr K (He.ga K "View") "hold_list" := He.noat_ok (c.fact 34 (f := .noat "View" "hold_list") rfl)
theorem meth_View_copy (c : Hd.Says faL exL fnL K) : Meth K (He.ga K "View") "copy" (He.ma K (He.ga K "View") "copy") := He.meth_ok (c.fact 35 (f := .meth "View" "copy") rfl)
theorem meth_View_hold_just (c : Hd.Says faL exL fnL K) : Meth K (He.ga K "View") "hold_just" (He.ma K (He.ga K "View") "hold_just") := He.meth_ok (c.fact 36 (f := .meth "View" "hold_just") rfl)
theorem pr_View_words (c : Hd.Says faL exL fnL K) : PropOf K (He.ga K "View") "words" (Hd.pAt K (He.ga K "View") "words") (Hd.gAt K (He.ga K "View") "words") := Hd.propB_ok (He.ba c.all.2.1).1
theorem pr_View_sights (c : Hd.Says faL exL fnL K) : PropOf K (He.ga K "View") "sights" (Hd.pAt K (He.ga K "View") "sights") (Hd.gAt K (He.ga K "View") "sights") := Hd.propB_ok (He.ba (He.ba c.all.2.1).2).1
theorem pr_View_holds (c : Hd.Says faL exL fnL K) : PropOf K (He.ga K "View") "holds" (Hd.pAt K (He.ga K "View") "holds") (Hd.gAt K (He.ga K "View") "holds") := Hd.propB_ok (He.ba (He.ba (He.ba c.all.2.1).2).2).1
theorem ex_0 (c : Hd.Says faL exL fnL K) : (tupA K (He.dflAt ("View", some "__init__") 1 K)) = true := (He.ba (He.ba (He.ba (He.ba c.all.2.1).2).2).2).1
theorem ex_1 (c : Hd.Says faL exL fnL K) : (biB K (He.ga K "View")) = true := (He.ba (He.ba (He.ba (He.ba (He.ba c.all.2.1).2).2).2).2).1
theorem ex_2 (c : Hd.Says faL exL fnL K) : (ownB K (He.ga K "View")) = true := (He.ba (He.ba (He.ba (He.ba (He.ba (He.ba c.all.2.1).2).2).2).2).2).1
theorem ex_3 (c : Hd.Says faL exL fnL K) : (spcB K (He.ga K "View") "__len__") = true := (He.ba (He.ba (He.ba (He.ba (He.ba (He.ba (He.ba c.all.2.1).2).2).2).2).2).2).1
theorem ex_4 (c : Hd.Says faL exL fnL K) : (spcB K (He.ga K "View") "__contains__") = true := (He.ba (He.ba (He.ba (He.ba (He.ba (He.ba (He.ba (He.ba c.all.2.1).2).2).2).2).2).2).2).1
theorem ex_5 (c : Hd.Says faL exL fnL K) : (spcB K (He.ga K "View") "__getitem__") = true := (He.ba (He.ba (He.ba (He.ba (He.ba (He.ba (He.ba (He.ba (He.ba c.all.2.1).2).2).2).2).2).2).2).2).1
theorem ex_6 (c : Hd.Says faL exL fnL K) : (spcB K (He.ga K "View") "__setitem__") = true := (He.ba (He.ba (He.ba (He.ba (He.ba (He.ba (He.ba (He.ba (He.ba (He.ba c.all.2.1).2).2).2).2).2).2).2).2).2).1
theorem def_View___init__ (c : Hd.Says faL exL fnL K) : ∃ fd, FunD K "__init__" "View.__init__" (defArgs s_View___init__) (defBody s_View___init__) (defScope s_View___init__) [He.Dv.v K (.non), He.Dv.v K (.adr (He.dflAt ("View", some "__init__") 1))] [] (He.ma K (He.ga K "View") "__init__") fd := c.def_ 14 (d := dp_View___init__) rfl
theorem def_View___eq__ (c : Hd.Says faL exL fnL K) : ∃ fd, FunD K "__eq__" "View.__eq__" (defArgs s_View___eq__) (defBody s_View___eq__) (defScope s_View___eq__) [] [] (He.ma K (He.ga K "View") "__eq__") fd := c.def_ 15 (d := dp_View___eq__) rfl
theorem def_View___len__ (c : Hd.Says faL exL fnL K) : ∃ fd, FunD K "__len__" "View.__len__" (defArgs s_View___len__) (defBody s_View___len__) (defScope s_View___len__) [] [] (He.ma K (He.ga K "View") "__len__") fd := c.def_ 16 (d := dp_View___len__) rfl
theorem def_View___contains__ (c : Hd.Says faL exL fnL K) : ∃ fd, FunD K "__contains__" "View.__contains__" (defArgs s_View___contains__) (defBody s_View___contains__) (defScope s_View___contains__) [] [] (He.ma K (He.ga K "View") "__contains__") fd := c.def_ 17 (d := dp_View___contains__) rfl
theorem def_View___getitem__ (c : Hd.Says faL exL fnL K) : ∃ fd, FunD K "__getitem__" "View.__getitem__" (defArgs s_View___getitem__) (defBody s_View___getitem__) (defScope s_View___getitem__) [] [] (He.ma K (He.ga K "View") "__getitem__") fd := c.def_ 18 (d := dp_View___getitem__) rfl
theorem def_View___setitem__ (c : Hd.Says faL exL fnL K) : ∃ fd, FunD K "__setitem__" "View.__setitem__" (defArgs s_View___setitem__) (defBody s_View___setitem__) (defScope s_View___setitem__) [] [] (He.ma K (He.ga K "View") "__setitem__") fd := c.def_ 19 (d := dp_View___setitem__) rfl
theorem def_View_words (c : Hd.Says faL exL fnL K) : ∃ fd, FunD K "words" "View.words" (defArgs s_View_words) (defBody s_View_words) (defScope s_View_words) [] [] (Hd.gAt K (He.ga K "View") "words") fd := c.def_ 20 (d := dp_View_words) rfl
theorem prop_View_words {P : Program} {w : World} {base : Heap} {sp : Sp} (c : Hd.Says faL exL fnL K) (ok : ∀ {f : Addr} {fd : FuncData}, FunD K "words" "View.words" (defArgs s_View_words) (defBody s_View_words) (defScope s_View_words) [] [] f fd → FnOk P w K mg base CX0 1 f fd ["self"] sp) : Pr P w K mg base 1 (He.ga K "View") "words" sp := let ⟨fd, F⟩ := def_View_words c; ⟨⟨_, _, fd, _, pr_View_words c, cls_View c, ok F, FunD.bindsN (ps := ["self"]) F (fun _ _ _ _ _ _ us hl => match us, hl with | [_], _ => rfl)⟩⟩
theorem def_View_sights (c : Hd.Says faL exL fnL K) : ∃ fd, FunD K "sights" "View.sights" (defArgs s_View_sights) (defBody s_View_sights) (defScope s_View_sights) [] [] (Hd.gAt K (He.ga K "View") "sights") fd := c.def_ 21 (d := dp_View_sights) rfl
theorem prop_View_sights {P : Program} {w : World} {base : Heap} {sp : Sp} (c : Hd.Says faL exL fnL K) (ok : ∀ {f : Addr} {fd : FuncData}, FunD K "sights" "View.sights" (defArgs s_View_sights) (defBody s_View_sights) (defScope s_View_sights) [] [] f fd → FnOk P w K mg base CX0 1 f fd ["self"] sp) : Pr P w K mg base 1 (He.ga K "View") "sights" sp := let ⟨fd, F⟩ := def_View_sights c; ⟨⟨_, _, fd, _, pr_View_sights c, cls_View c, ok F, FunD.bindsN (ps := ["self"]) F (fun _ _ _ _ _ _ us hl => match us, hl with | [_], _ => rfl)⟩⟩
theorem def_View_holds (c : Hd.Says faL exL fnL K) : ∃ fd, FunD K "holds" "View.holds" (defArgs s_View_holds) (defBody s_View_holds) (defScope s_View_holds) [] [] (Hd.gAt K (He.ga K "View") "holds") fd := c.def_ 22 (d := dp_View_holds) rfl
theorem prop_View_holds {P : Program} {w : World} {base : Heap} {sp : Sp} (c : Hd.Says faL exL fnL K) (ok : ∀ {f : Addr} {fd : FuncData}, FunD K "holds" "View.holds" (defArgs s_View_holds) (defBody s_View_holds) (defScope s_View_holds) [] [] f fd → FnOk P w K mg base CX0 1 f fd ["self"] sp) : Pr P w K mg base 1 (He.ga K "View") "holds" sp := let ⟨fd, F⟩ := def_View_holds c; ⟨⟨_, _, fd, _, pr_View_holds c, cls_View c, ok F, FunD.bindsN (ps := ["self"]) F (fun _ _ _ _ _ _ us hl => match us, hl with | [_], _ => rfl)⟩⟩
theorem def_View_hold_just (c : Hd.Says faL exL fnL K) : ∃ fd, FunD K "hold_just" "View.hold_just" (defArgs s_View_hold_just) (defBody s_View_hold_just) (defScope s_View_hold_just) [] [] (He.ma K (He.ga K "View") "hold_just") fd := c.def_ 23 (d := dp_View_hold_just) rfl
theorem def_View_copy (c : Hd.Says faL exL fnL K) : ∃ fd, FunD K "copy" "View.copy" (defArgs s_View_copy) (defBody s_View_copy) (defScope s_View_copy) [] [] (He.ma K (He.ga K "View") "copy") fd := c.def_ 24 (d := dp_View_copy) rfl
end

section
variable {P : Program} {w : World} {K : PySem.W.Frag} {h base : Heap} {mg : PySem.Str → Option Value}
theorem vwc (c : Hd.Says faL exL fnL K) : VwC K (He.ga K "View") := ⟨cls_View c, no_View_sight_table c, no_View_hold_list c⟩
theorem facts {f : Addr} (X : K.In h) (G : h.Ns mainGlobals mg) (hfa : mg ("law" : PySem.Str) = some (.ref f)) (c : Hd.Says faL exL fnL K) :
    ∃ fd : FuncData, (∀ (s : Shared) (v : Value), BindsTo s fd ⟨[v], []⟩ [("_law_script", v)]) ∧ ∀ base : Heap, K.In base → base.Ns mainGlobals mg → FnOk P w K mg base CX0 7 f fd ["_law_script"] (spLaw K) := by
  have T := bt_of X G c
  have vc := vwc c
  have bi : Bi K (He.ga K "View") := bi_ok (ex_1 c)
  obtain ⟨⟨f', fd, F, g⟩⟩ := at_law X G c
  have e := hfa.symm.trans g
  cases e
  have b := FunD.bindsA (ps := ["_law_script"]) F (fun _ _ _ _ _ _ us hl => match us, hl with | [_], _ => rfl)
  refine ⟨fd, fun s v => b s [v] rfl, fun base _ _ => ?_⟩
  have c_is_name : Cl P w K mg base 1 "is_name" (spIsName K) [] := cl_is_name T (at_is_name X G c)
  have c_is_row : Cl P w K mg base 1 "is_row" (spIsRow K) [] := cl_is_row T (at_is_row X G c)
  have c_check_sights : Cl P w K mg base 2 "check_sights" (spCheckSights K) [] := cl_check_sights T c_is_name (at_check_sights X G c)
  have c_check_words : Cl P w K mg base 2 "check_words" (spCheckWords K) [] := cl_check_words T c_is_row c_is_name (at_check_words X G c)
  have c_law_stream : Cl P w K mg base 1 "_law_stream" (spStream K) [] := cl_stream T (at_law_stream X G c)
  have c_law_draw : Cl P w K mg base 1 "_law_draw" spDraw [] := cl_draw T (at_law_draw X G c)
  have c_law_is_integer : Cl P w K mg base 1 "_law_is_integer" (spIsInt K) [] := cl__law_is_integer T (at_law_is_integer X G c)
  have c_law_flag : Cl P w K mg base 1 "_law_flag" spFlag [] := cl_flag T (at_law_flag X G c)
  have c_law_long_names := cl_long T c_law_draw (at_law_long_names X G c)
  have p_words : Pr P w K mg base 1 (He.ga K "View") "words" (spVwWords (He.ga K "View")) := prop_View_words c (fun F => ok_vw_words T vc F)
  have p_sights : Pr P w K mg base 1 (He.ga K "View") "sights" (spVwSights (He.ga K "View")) := prop_View_sights c (fun F => ok_vw_sights T vc F)
  have p_holds : Pr P w K mg base 1 (He.ga K "View") "holds" (spVwHolds (He.ga K "View")) := prop_View_holds c (fun F => ok_vw_holds T vc F)
  obtain ⟨f1, F1⟩ := def_View___len__ c
  have y1 : Ow P w K mg base 1 (He.ga K "View") "__len__" (spVwLen (He.ga K "View")) := ⟨⟨_, f1, _, ok_vw_len T vc F1, FunD.bindsN (ps := ["self"]) F1 (fun _ _ _ _ _ _ us hl => match us, hl with | [_], _ => rfl), spc_ok (ex_3 c)⟩⟩
  obtain ⟨f2, F2⟩ := def_View___contains__ c
  have y2 : Ow P w K mg base 2 (He.ga K "View") "__contains__" (spVwIn K (He.ga K "View")) := ⟨⟨_, f2, _, ok_vw_in T vc c_is_name F2, FunD.bindsN (ps := ["self", "x"]) F2 (fun _ _ _ _ _ _ us hl => match us, hl with | [_, _], _ => rfl), spc_ok (ex_4 c)⟩⟩
  obtain ⟨f3, F3⟩ := def_View___getitem__ c
  have y3 : Ow P w K mg base 2 (He.ga K "View") "__getitem__" (spVwItem (He.ga K "View")) := ⟨⟨_, f3, _, ok_vw_item T vc c_is_name F3, FunD.bindsN (ps := ["self", "at"]) F3 (fun _ _ _ _ _ _ us hl => match us, hl with | [_, _], _ => rfl), spc_ok (ex_5 c)⟩⟩
  obtain ⟨f4, F4⟩ := def_View___setitem__ c
  have y4 : Ow P w K mg base 2 (He.ga K "View") "__setitem__" (spVwSet (He.ga K "View")) := ⟨⟨_, f4, _, ok_vw_set T vc c_is_name F4, FunD.bindsN (ps := ["self", "at", "worth"]) F4 (fun _ _ _ _ _ _ us hl => match us, hl with | [_, _, _], _ => rfl), spc_ok (ex_6 c)⟩⟩
  obtain ⟨f5, F5⟩ := def_View___eq__ c
  have o1 : Oq P w K mg base 1 (He.ga K "View") (spVwEq K (He.ga K "View")) := ⟨⟨_, f5, _, ok_vw_eq2 T vc (gl_View X G c) F5, FunD.bindsN (ps := ["self", "other"]) F5 (fun _ _ _ _ _ _ us hl => match us, hl with | [_, _], _ => rfl), own_ok (ex_2 c)⟩⟩
  obtain ⟨vi, Vi⟩ := def_View___init__ c
  have ov := ok_view (P := P) (w := w) (mg := mg) (base := base) T vc c_check_sights c_check_words Vi
  obtain ⟨d0, v0, b0⟩ := Vi.binds1 (ps := ["self", "sights", "holds"]) 1 0 (fun z => nomatch z) rfl fun _ _ _ _ _ _ _ us its hl hi => match us, its, hl, hi with | [_], [_, _], _, _ => ⟨_, rfl, rfl⟩
  have k0 : Mr P w K mg base 3 "View" (He.ga K "View") (spView K (He.ga K "View")) [.non, .ref (He.dflAt ("View", some "__init__") 1 K)] := ⟨⟨_, vi, _, d0, mkr_View c, ov, gl_View X G c, b0, v0⟩⟩
  obtain ⟨d1, v1, b1⟩ := Vi.binds1 (ps := ["self", "sights", "holds"]) 2 1 (fun z => nomatch z) rfl fun _ _ _ _ _ _ _ us its hl hi => match us, its, hl, hi with | [_, _], [_, _], _, _ => ⟨_, rfl, rfl⟩
  have k1 : Mr P w K mg base 3 "View" (He.ga K "View") (spView K (He.ga K "View")) [.ref (He.dflAt ("View", some "__init__") 1 K)] := ⟨⟨_, vi, _, d1, mkr_View c, ov, gl_View X G c, b1, v1⟩⟩
  obtain ⟨d2, v2, b2⟩ := Vi.binds1 (ps := ["self", "sights", "holds"]) 3 2 (fun z => nomatch z) rfl fun _ _ _ _ _ _ _ us its hl hi => match us, its, hl, hi with | [_, _, _], [_, _], _, _ => ⟨_, rfl, rfl⟩
  have k2 : Mr P w K mg base 3 "View" (He.ga K "View") (spView K (He.ga K "View")) [] := ⟨⟨_, vi, _, d2, mkr_View c, ov, gl_View X G c, b2, v2⟩⟩
  obtain ⟨f6, F6⟩ := def_View_copy c
  have mc : Me P w K mg base 5 (He.ga K "View") "copy" (spVwCopy (He.ga K "View")) := ⟨⟨_, f6, _, meth_View_copy c, vc.cl, ok_vw_copy T vc k2 F6, FunD.bindsN (ps := ["self"]) F6 (fun _ _ _ _ _ _ us hl => match us, hl with | [_], _ => rfl)⟩⟩
  obtain ⟨f7, F7⟩ := def_View_hold_just c
  have mh : Me P w K mg base 3 (He.ga K "View") "hold_just" (spVwHold K (He.ga K "View")) := ⟨⟨_, f7, _, meth_View_hold_just c, vc.cl, ok_vw_hold T vc c_check_words F7, FunD.bindsN (ps := ["self", "words"]) F7 (fun _ _ _ _ _ _ us hl => match us, hl with | [_, _], _ => rfl)⟩⟩
  have hcd := tupA_ok (ex_0 c)
  have c_law_right := cl_right5 T c_law_is_integer p_words p_sights p_holds y1 (at_law_right X G c)
  have c_law_asked := cl_asked5 T c_law_flag y2 y3 (at_law_asked X G c)
  have c_law_spoiled := cl_spoiled5 T c_law_right c_law_asked p_words p_sights p_holds (at_law_spoiled X G c)
  have c_law_bare := cl_bare5 T vc bi c_law_flag k2 k1 k0 hcd o1 y1 p_holds (at_law_bare X G c)
  exact ok_law T vc bi c_law_stream c_law_draw c_law_long_names c_law_right c_law_asked c_law_spoiled c_law_bare k2 o1 mc mh y3 y4 p_holds F
end
end Lw

namespace Lw
open PySem PySem.Spec PyProof.Rows L2
abbrev RW_ : PySem.W.OpenRow := PySem.W.OpenLaw.row PySem.Challenge.rw_leastguards_k05_view_tells_what_it_sees
def loose : List PySem.Str := (["GuardError", "BadWord", "BadView", "LETTERS", "LONGEST_NAME", "is_name", "is_row", "check_sights", "check_words", "sights_without", "View", "_law_stream", "_law_draw", "_law_is_integer", "_law_flag", "_law_long_names", "_law_right", "_law_asked", "_law_spoiled", "_law_bare"] : List PySem.Str)
abbrev hk : PySem.W.Hook := Hd.hook 8 faL exL fnL
def ob (s : PySem.W.SharedT) : Hd.Obs := Hd.obsG 8 faL exL fnL (HandSHeadRun.getT s)
theorem ob_eq (s : PySem.W.SharedT) : ob s = hk.obs s.abs := Hd.obsG_eq (HandSHeadRun.getT_eq s)
theorem run (w : World) : HandSHeadRun.RunEq RW_ (PySem.W.view RW_.prog [24]) hk ob 20000 loose w := by
  intro os
  kernel_rfl
end Lw

open PySem PySem.W PySem.Calls PyProof.Rows
theorem PySem.Challenge.cw_leastguards_k05_view_tells_what_it_sees_holds : PySem.Challenge.rw_leastguards_k05_view_tells_what_it_sees.Holds := by
  w_on; o_law
  refine HandSHeadRun.head_any (r := OpenLaw.row PySem.Challenge.rw_leastguards_k05_view_tells_what_it_sees) (q := view (OpenLaw.row PySem.Challenge.rw_leastguards_k05_view_tells_what_it_sees).prog [24]) (H := Lw.hk) (ob := Lw.ob) (M := 20000) (loose := Lw.loose) (d := HandSHeadRun.topDef (OpenLaw.row PySem.Challenge.rw_leastguards_k05_view_tells_what_it_sees).prog 24) (kwd := []) Lw.ob_eq
    (by kernel_rfl) (fun s => by kernel_rfl) Lw.run (by kernel_rfl) (by kernel_rfl) (by kernel_rfl) (by rfl) (by first | assumption | decide +kernel) (by decide +kernel) ⟨rfl, rfl, rfl, rfl, rfl, by decide +kernel⟩ ?hw ?hc
  case hw => w_witness2
  case hc =>
    refine L2.walk_ofE (l := PySem.Challenge.rw_leastguards_k05_view_tells_what_it_sees) (n := 63) (k := 7) (x := "_law_script") (CX := L2.CX0) rfl (by decide) (by kernel_rfl) ⟨rfl, by decide, by decide⟩ ?F (fun _ _ _ _ z => z)
    intro w mg fa h Y G hmg0
    obtain ⟨K, KX, c⟩ := Y
    have hmg : mg ("law" : PySem.Str) = some (.ref fa) := by
      have e : (HandSHeadRun.topDef (OpenLaw.row PySem.Challenge.rw_leastguards_k05_view_tells_what_it_sees).prog 24).name = ("law" : PySem.Str) := by kernel_rfl
      rw [← e]
      exact hmg0
    obtain ⟨fd, hb, hF⟩ := Lw.facts (P := (PySem.Challenge.rw_leastguards_k05_view_tells_what_it_sees).prog) (w := w) KX G hmg c
    exact ⟨K, fd, Lw.spLaw K, KX, hb, fun H a ns hl _ hS => ⟨a, ns, rfl, hS, fun _ => rfl⟩, hF⟩

